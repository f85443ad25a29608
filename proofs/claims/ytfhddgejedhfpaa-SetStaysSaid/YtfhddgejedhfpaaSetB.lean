/- Sets: each function's answer. -/
import Derived.Test.YtfhddgejedhfpaaSetA
namespace Go.Proofs.Ytfhddgejedhfpaa
open Go.RowKit

theorem Tells.mk' {w : World} {g : Nat} {lb : Array Value} {p : Int → Bool} (eg : ∀ args w, (callFunc g args).run Try.prog w = .ok (.enter g args) w) (hp : PredAt Try.prog g lb (Value.int .i64) p w) : Tells w (.func (.func g) #[] lb) p := ⟨g, lb, rfl, eg, hp⟩

theorem tells_all (w : World) : Tells w (.func (.func 29) #[] #[]) (fun _ => true) :=
  Tells.mk' (enters_of Try.func29 (by kernel_rfl) rfl) fun W x _ => by
    unfold FnGives
    go_enter Try.func29, Try.ntmps29
    go_wp2
    go_ret
    exact ⟨rfl, 0, rfl⟩

theorem tells_less (w : World) (B : Nat) (x : Int) (hB : B < w.heap.size) (hc : w.cell? ⟨B, 0, none⟩ = some (.int .i64 x)) : Tells w (.func (.func 31) #[] #[.pointer (some ⟨B, 0, none⟩)]) (fun y => decide (y < x)) :=
  Tells.mk' (enters_of Try.func31 (by kernel_rfl) rfl) fun W y hb => by
    have hc' : W.cell? ⟨B, 0, none⟩ = some (.int .i64 x) := (hb.cell (p := ⟨B, 0, none⟩) hB).trans hc
    clear hc
    unfold FnGives
    go_enter Try.func31, Try.ntmps31
    go_wp2
    go_ret
    exact ⟨rfl, 0, rfl⟩

theorem tells_other (w : World) (B : Nat) (x : Int) (hB : B < w.heap.size) (hc : w.cell? ⟨B, 0, none⟩ = some (.int .i64 x)) : Tells w (.func (.func 32) #[] #[.pointer (some ⟨B, 0, none⟩)]) (fun y => y != x) :=
  Tells.mk' (enters_of Try.func32 (by kernel_rfl) rfl) fun W y hb => by
    have hc' : W.cell? ⟨B, 0, none⟩ = some (.int .i64 x) := (hb.cell (p := ⟨B, 0, none⟩) hB).trans hc
    clear hc
    unfold FnGives
    go_enter Try.func32, Try.ntmps32
    go_wp2
    go_ret
    exact ⟨rfl, 0, rfl⟩

theorem search_any (w : World) (v : Value) (s : List Int) (x : Int) (h : Sl w v s) (hs : SS s) (hl : s.length ≤ 1000000) :
    Calls Try.prog 42 #[v, .int .i64 x] w fun e w' => ∃ n : Int, e = .returned (.tuple #[.int .i64 n, .bool (decide (x ∈ s))]) ∧ Hid (Drew w w') := by
  rcases h.parts with ⟨rfl, ao, c, rfl⟩ | ⟨b, off, c, rfl, hc, hc63, hb, hpos, hcell⟩
  · refine (Try.slices_BinarySearch_int_empty ao c x w).mono ?_
    rintro e w' ⟨rfl, rfl⟩
    exact ⟨0, by simp, Drew.refl _⟩
  · refine (Try.slices_BinarySearch_int b off s.length c s x w (Nat.le_refl _) (by omega) hcell (by rw [List.take_length]; exact hs.imp fun h => by omega)).mono ?_
    rintro e w' ⟨rfl, q, rfl⟩
    exact ⟨((s.countP fun y => decide (y < x) : Nat) : Int), by rw [List.take_length]; simp, q, rfl⟩

theorem tells_in (w : World) (B : Nat) (v : Value) (s : List Int) (hB : B < w.heap.size) (hc : w.cell? ⟨B, 0, none⟩ = some v) (h : Sl w v s) (hs : SS s) (hl : s.length ≤ 1000000) :
    Tells w (.func (.func 41) #[] #[.pointer (some ⟨B, 0, none⟩)]) (fun x => decide (x ∈ s)) :=
  Tells.mk' (enters_of Try.func41 (by kernel_rfl) rfl) fun W y hb => by
    have hc' : W.cell? ⟨B, 0, none⟩ = some v := (hb.cell (p := ⟨B, 0, none⟩) hB).trans hc
    have HS := Lib.hid (h.below hb (Nat.le_refl _))
    obtain ⟨ao, c, rfl⟩ := h.len
    clear hc h
    have HSS := Lib.hid hs
    clear hs
    unfold FnGives
    go_enter Try.func41, Try.ntmps41
    go_wp2_with (go_at_call 42; refine (search_any _ _ _ y HS.out HSS.out hl).mono ?_; rintro e w' ⟨n, rfl, HD⟩)
    go_ret
    obtain ⟨q, rfl⟩ := HD.out
    exact ⟨rfl, q, rfl⟩

theorem tells_not (w : World) (B : Nat) (fv : Value) (p : Int → Bool) (hB : B < w.heap.size) (hc : w.cell? ⟨B, 0, none⟩ = some fv) (h : Tells w fv p) :
    Tells w (.func (.func 43) #[] #[.pointer (some ⟨B, 0, none⟩)]) (fun x => !p x) :=
  Tells.mk' (enters_of Try.func43 (by kernel_rfl) rfl) fun W y hb => by
    have hc' : W.cell? ⟨B, 0, none⟩ = some fv := (hb.cell (p := ⟨B, 0, none⟩) hB).trans hc
    obtain ⟨g, lb, rfl, eg, hp⟩ := h.any
    have HH : Hid (Calls Try.prog g (#[.int .i64 y] ++ lb) W fun e w' => e = .returned (.bool (p y)) ∧ Hid (Drew W w')) :=
      Lib.hid ((hp W y hb).mono fun e w' ⟨he, q, hq⟩ => ⟨he, q, hq⟩)
    clear hc h hp
    obtain ⟨t, ht⟩ : ∃ t, t = p y := ⟨_, rfl⟩
    rw [← ht] at HH
    have HT := Lib.hid ht
    clear ht
    unfold FnGives
    go_enter Try.func43, Try.ntmps43
    go_wp2_with (go_at_fn g; refine HH.out.mono ?_; rintro e w' ⟨rfl, HD⟩)
    go_ret
    obtain ⟨q, rfl⟩ := HD.out
    exact ⟨ret_bool (by rw [HT.out]), q, rfl⟩

theorem setOf_any (w : World) (v : Value) (xs : List Int) (h : Sl w v xs) (hlen : xs.length ≤ 1000000) : Calls Try.prog 12 #[v] w (GivesOw w (norm xs)) := by
  have HS := Lib.hid h
  clear h
  go_enter Try.func12, Try.ntmps12
  go_wp2_with (go_at_call 28; refine (those_any _ _ _ xs _ HS.out (tells_all _) hlen).mono ?_; rintro e w' ⟨v', rfl, ho, hb⟩; have HO := Lib.hid ho; have HB := Lib.hid hb; clear ho hb)
  go_ret
  exact ⟨_, rfl, by have := HO.out; rwa [List.filter_eq_self.2 (fun _ _ => rfl)] at this, HB.out⟩

theorem setHas_any (w : World) (v : Value) (xs : List Int) (x : Int) (h : Sl w v xs) : Calls Try.prog 15 #[v, .int .i64 x] w fun e w' => e = .returned (.bool (decide (x ∈ xs))) ∧ w = w' := by
  have HC : Hid (Calls Try.prog 30 #[v, .int .i64 x] w fun e w' => e = .returned (.bool (decide (x ∈ xs))) ∧ w = w') := by
    refine Lib.hid ?_
    rcases h.parts with ⟨rfl, ao, c, rfl⟩ | ⟨b, off, c, rfl, hc, hc63, hb, hpos, hcell⟩
    · exact (Try.slices_Contains_int_empty ao c x w).mono fun e w' ⟨he, hw⟩ => ⟨by rw [he]; simp, hw.symm⟩
    · exact (Try.slices_Contains_int b off xs.length c xs x w (Nat.le_refl _) (by omega) hcell).mono fun e w' ⟨he, hw⟩ => ⟨by rw [he, List.take_length]; exact ret_bool (by simp), hw.symm⟩
  clear h
  go_enter Try.func15, Try.ntmps15
  go_wp2_with (go_at_call 30; refine HC.out.mono ?_; rintro e w' ⟨rfl, rfl⟩)
  go_ret
  exact ⟨rfl, rfl⟩

theorem setPlace_any (w : World) (v : Value) (xs : List Int) (x : Int) (h : Sl w v xs) (hlen : xs.length ≤ 1000000) : Calls Try.prog 17 #[v, .int .i64 x] w (GivesB w (.int .i64 (placeOf xs x))) := by
  have HS := Lib.hid (h.alloc (.cells #[.int .i64 x] 3))
  have HT : Hid (Tells (w.alloc (.cells #[.int .i64 x] 3)) (.func (.func 31) #[] #[.pointer (some ⟨w.heap.size, 0, none⟩)]) (fun y => decide (y < x))) :=
    Lib.hid (tells_less _ _ _ (by simp) (by rw [World.cell?_alloc_at _ _ _ _ rfl]; rfl))
  clear h
  have hmf : ∀ (fn : Fn) (first cap : Array Value) (w : World), (Instr.makeFunc fn first cap).run Try.prog w = .ok (.func fn first cap) w := fun _ _ _ _ => rfl
  go_enter Try.func17, Try.ntmps17
  go_wp2_with (go_at_call 28; refine (those_any _ _ _ xs _ HS.out HT.out hlen).mono ?_; rintro e w' ⟨v', rfl, ho, hb⟩; have HO := Lib.hid ho; have HB := Lib.hid hb; obtain ⟨ao, c, rfl⟩ := ho.sl.len; clear ho hb)
  go_ret
  exact ⟨rfl, ((Below.refl _ w).alloc (Nat.le_refl _) _).trans (HB.out.mono (by simp))⟩

theorem setDel_any (w : World) (v : Value) (xs : List Int) (x : Int) (h : Sl w v xs) (hlen : xs.length ≤ 1000000) : Calls Try.prog 22 #[v, .int .i64 x] w (GivesOw w (norm (xs.filter fun y => y != x))) := by
  have HS := Lib.hid (h.alloc (.cells #[.int .i64 x] 3))
  have HT : Hid (Tells (w.alloc (.cells #[.int .i64 x] 3)) (.func (.func 32) #[] #[.pointer (some ⟨w.heap.size, 0, none⟩)]) (fun y => y != x)) :=
    Lib.hid (tells_other _ _ _ (by simp) (by rw [World.cell?_alloc_at _ _ _ _ rfl]; rfl))
  clear h
  have hmf : ∀ (fn : Fn) (first cap : Array Value) (w : World), (Instr.makeFunc fn first cap).run Try.prog w = .ok (.func fn first cap) w := fun _ _ _ _ => rfl
  go_enter Try.func22, Try.ntmps22
  go_wp2_with (go_at_call 28; refine (those_any _ _ _ xs _ HS.out HT.out hlen).mono ?_; rintro e w' ⟨v', rfl, ho, hb⟩; have HO := Lib.hid ho; have HB := Lib.hid hb; clear ho hb)
  go_ret
  exact ⟨_, rfl, HO.out.mono (by simp), ((Below.refl _ w).alloc (Nat.le_refl _) _).trans (HB.out.mono (by simp))⟩

/-- A function value that tells p, made by a call. -/
def GivesFn (w : World) (p : Int → Bool) (e : Ending) (w' : World) : Prop := ∃ fv, e = .returned fv ∧ Tells w' fv p ∧ Below w.heap.size w w'

theorem in_any (w : World) (v : Value) (xs : List Int) (h : Sl w v xs) (hlen : xs.length ≤ 1000000) : Calls Try.prog 34 #[v] w (GivesFn w (fun x => decide (x ∈ xs))) := by
  have HS := Lib.hid h
  clear h
  have hnl : (norm xs).length ≤ 1000000 := Nat.le_trans (norm_length _) hlen
  have hmf : ∀ (fn : Fn) (first cap : Array Value) (w : World), (Instr.makeFunc fn first cap).run Try.prog w = .ok (.func fn first cap) w := fun _ _ _ _ => rfl
  go_enter Try.func34, Try.ntmps34
  go_wp2_with (go_at_call 12; refine (setOf_any _ _ xs HS.out hlen).mono ?_; rintro e w' ⟨v', rfl, ho, hb⟩; have HO := Lib.hid ho; have HB := Lib.hid hb; obtain ⟨ao, c, rfl⟩ := ho.sl.len; clear ho hb)
  go_ret
  refine ⟨_, rfl, ?_, HB.out.alloc HB.out.size _⟩
  have ht := tells_in (w'.alloc (.cells #[.slice ao (norm xs).length c] 22)) w'.heap.size (.slice ao (norm xs).length c) (norm xs) (by simp) (by rw [World.cell?_alloc_at _ _ _ _ rfl]; rfl) (HO.out.sl.alloc _) (norm_SS xs) hnl
  simp only [mem_norm] at ht
  exact ht

theorem not_any (w : World) (fv : Value) (p : Int → Bool) (h : Tells w fv p) : Calls Try.prog 35 #[fv] w (GivesFn w (fun x => !p x)) := by
  have HT := Lib.hid h
  obtain ⟨g, lb, rfl, eg, hp⟩ := h.any
  clear h hp eg
  have hmf : ∀ (fn : Fn) (first cap : Array Value) (w : World), (Instr.makeFunc fn first cap).run Try.prog w = .ok (.func fn first cap) w := fun _ _ _ _ => rfl
  go_enter Try.func35, Try.ntmps35
  go_wp2
  go_ret
  exact ⟨_, rfl, tells_not _ w.heap.size _ p (by simp) (by rw [World.cell?_alloc_at _ _ _ _ rfl]; rfl) (HT.out.below ((Below.refl _ w).alloc (Nat.le_refl _) _) (Nat.le_refl _)), (Below.refl _ w).alloc (Nat.le_refl _) _⟩

theorem setBoth_any (w : World) (v u : Value) (xs ys : List Int) (h : Sl w v xs) (g : Sl w u ys) (hx : xs.length ≤ 1000000) (hy : ys.length ≤ 1000000) : Calls Try.prog 25 #[v, u] w (GivesOw w (norm (xs.filter fun x => decide (x ∈ ys)))) := by
  have HS := Lib.hid h
  have HG := Lib.hid g
  clear h g
  go_enter Try.func25, Try.ntmps25
  go_wp2_with (first
    | (go_at_call 34; refine (in_any _ _ ys HG.out hy).mono ?_; rintro e w1 ⟨fv, rfl, ht, hb⟩; have HT := Lib.hid ht; have HB := Lib.hid hb; clear ht hb)
    | (go_at_call 28; refine (those_any _ _ _ xs _ (HS.out.below HB.out (Nat.le_refl _)) HT.out hx).mono ?_; rintro e w2 ⟨v', rfl, ho, hb⟩; have HO := Lib.hid ho; have HB2 := Lib.hid hb; clear ho hb))
  go_ret
  exact ⟨_, rfl, HO.out.mono HB.out.size, HB.out.trans (HB2.out.mono HB.out.size)⟩

theorem setMinus_any (w : World) (v u : Value) (xs ys : List Int) (h : Sl w v xs) (g : Sl w u ys) (hx : xs.length ≤ 1000000) (hy : ys.length ≤ 1000000) : Calls Try.prog 26 #[v, u] w (GivesOw w (norm (xs.filter fun x => !decide (x ∈ ys)))) := by
  have HS := Lib.hid h
  have HG := Lib.hid g
  clear h g
  go_enter Try.func26, Try.ntmps26
  go_wp2_with (first
    | (go_at_call 34; refine (in_any _ _ ys HG.out hy).mono ?_; rintro e w1 ⟨fv, rfl, ht, hb⟩; have HT := Lib.hid ht; have HB := Lib.hid hb; clear ht hb)
    | (go_at_call 35; refine (not_any _ _ _ HT.out).mono ?_; rintro e w2 ⟨fv2, rfl, ht, hb⟩; have HT2 := Lib.hid ht; have HB2 := Lib.hid (HB.out.trans (hb.mono HB.out.size)); clear ht hb)
    | (go_at_call 28; refine (those_any _ _ _ xs _ (HS.out.below HB2.out (Nat.le_refl _)) HT2.out hx).mono ?_; rintro e w3 ⟨v', rfl, ho, hb⟩; have HO := Lib.hid ho; have HB3 := Lib.hid hb; clear ho hb))
  go_ret
  exact ⟨_, rfl, HO.out.mono HB2.out.size, HB2.out.trans (HB3.out.mono HB2.out.size)⟩

theorem containsFunc_any (w : World) (v fv : Value) (xs : List Int) (p : Int → Bool) (h : Sl w v xs) (ht : Tells w fv p) : Calls Try.prog 36 #[v, fv] w fun e w' => e = .returned (.bool (xs.any p)) ∧ Hid (Drew w w') := by
  obtain ⟨g, lb, rfl, eg, hp⟩ := ht.any
  rcases h.parts with ⟨rfl, ao, c, rfl⟩ | ⟨b, off, c, rfl, hc, hc63, hb, hpos, hcell⟩
  · refine (Try.slices_ContainsFunc_empty (α := Int) ao c _ w).mono ?_
    rintro e w' ⟨rfl, rfl⟩
    exact ⟨rfl, Drew.refl _⟩
  · refine (Try.slices_ContainsFunc (Value.int .i64) p g lb eg b off xs.length c xs w hp (Nat.le_refl _) (by omega) (fun j hj => by rw [hcell j hj]; simp [hj])).mono ?_
    rintro e w' ⟨rfl, q, rfl⟩
    exact ⟨by rw [List.take_length], q, rfl⟩

theorem setWithin_any (w : World) (v u : Value) (xs ys : List Int) (h : Sl w v xs) (g : Sl w u ys) (hy : ys.length ≤ 1000000) : Calls Try.prog 27 #[v, u] w (GivesB w (.bool (xs.all fun x => decide (x ∈ ys)))) := by
  have HS := Lib.hid h
  have HG := Lib.hid g
  clear h g
  obtain ⟨t, ht⟩ : ∃ t, t = xs.any (fun x => !decide (x ∈ ys)) := ⟨_, rfl⟩
  have HX := Lib.hid ht
  go_enter Try.func27, Try.ntmps27
  clear ht
  go_wp2_with (first
    | (go_at_call 34; refine (in_any _ _ ys HG.out hy).mono ?_; rintro e w1 ⟨fv, rfl, ht, hb⟩; have HT := Lib.hid ht; have HB := Lib.hid hb; clear ht hb)
    | (go_at_call 35; refine (not_any _ _ _ HT.out).mono ?_; rintro e w2 ⟨fv2, rfl, ht, hb⟩; have HT2 := Lib.hid ht; have HB2 := Lib.hid (HB.out.trans (hb.mono HB.out.size)); clear ht hb)
    | (go_at_call 36; refine (containsFunc_any _ _ _ xs _ (HS.out.below HB2.out (Nat.le_refl _)) HT2.out).mono ?_; rintro e w3 ⟨rfl, HD⟩; rw [← HX.out]))
  go_ret
  exact ⟨ret_bool (by rw [HX.out]; simp [List.all_eq_not_any_not]), HB2.out.trans (HD.out.below _)⟩

end Go.Proofs.Ytfhddgejedhfpaa
