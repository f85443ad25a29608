/- Bytes being written: a slice of bytes of the call's own, what is appended to it, and the program's own numbers. -/
import Derived.Test.YtkfabocnhkmneaaDoorF5
import Derived.Lib.AppendStr
namespace Go.Proofs.YtkfabocnhkmneaaDoor
open Go.RowKit

structure B8 where
  n : Nat

instance : Elem B8 where
  e := 5
  t := 41
  k := 1
  bytes := 1
  z := .int .u8 0
  enc := fun x => [.int .u8 (x.n : Int)]
  dflt := ⟨0⟩
  len := fun _ => rfl
  pos := by decide
  one := fun x u hu => by simp at hu; subst hu; rfl
  row := by kernel_rfl
  info := by kernel_rfl
  zsize := rfl
  few := by decide

def b8 (l : List Nat) : List B8 := l.map B8.mk
theorem b8_length (l : List Nat) : (b8 l).length = l.length := by unfold b8; rw [List.length_map]
theorem b8_append (l m : List Nat) : b8 (l ++ m) = b8 l ++ b8 m := by unfold b8; rw [List.map_append]
theorem cells_b : ∀ l : List Nat, cellsOf (b8 l) = l.map fun b : Nat => Value.int .u8 (b : Int)
  | [] => rfl
  | a :: l => by
    have ih := cells_b l
    show Elem.enc (B8.mk a) ++ cellsOf (b8 l) = _
    rw [ih]
    rfl
theorem cells_text (s : ByteArray) : Lib.strCells s = (bl s).map fun b : Nat => Value.int .u8 (b : Int) := by
  unfold Lib.strCells bl
  rw [List.map_map]
  rfl

/-- append(b, s...) -/
theorem wpList_append_text {w : World} {ops : Array Oper} {rest : List Oper} {o : Oper} {a : Act} {Q : Exit → Act → World → Prop} (hgd : o.guard = none) (s x : Operand)
    (ho : o.op = .call { callee := .builtin .append, args := #[s, x], argTypes := #[41, 9] })
    (B : Nat) (v : Value) (l : List Nat) (hs : a.eval s = v) (hown : Ow w B v (b8 l)) (t : ByteArray) (hx : a.eval x = .string t)
    (hbytes : l.length + t.size ≤ 100000000) (hbase : B ≤ w.heap.size)
    (h : ∀ v' w', Ow w' B v' (b8 (l ++ bl t)) → Below B w w' → wpList Tryd.prog ops Q rest (a.put o.dst v') w') : wpList Tryd.prog ops Q (o :: rest) a w := by
  obtain ⟨i0, hi, hz0, hz1, hz2⟩ := info_parts (Elem.info (α := B8))
  have hlow := hown.low
  have hown' := hown
  unfold Ow at hown'
  rw [b8_length, cells_b] at hown'
  refine Lib.wpList_append_own_string w hgd s x 41 9 ho B (Elem.e B8) i0 (Elem.row (α := B8)) (by kernel_rfl) hi hz0 hz1 hz2 v l.length _ hs hown' t hx (by unfold maxLen; omega) (by omega) hbase fun v' w' h1 h2 _ => h v' w' ?_ ?_
  · unfold Ow
    rw [b8_length, cells_b, List.length_append, List.map_append, bl_length, ← cells_text]
    exact h1
  · exact (Below.refl _ _).grown h2 hbase fun k hk => (hlow k hk).1

/-- string(b) -/
theorem text_ow {w : World} {B : Nat} {v : Value} {l : List Nat} (h : Ow w B v (b8 l)) (hl : l ≠ []) :
    ∃ g c, v = .slice (some ⟨g, 0, none⟩) l.length c ∧ g < w.heap.size ∧ (convert 41 9 (.slice (some ⟨g, 0, none⟩) l.length c)).run Tryd.prog w = .ok (.string (textN l)) w := by
  unfold Ow at h
  rw [b8_length, cells_b] at h
  rcases h.2 with ⟨_, h0⟩ | ⟨g, cap, cur, rfl, _, hh, _, _, _, _⟩
  · exact absurd (List.eq_nil_of_length_eq_zero h0) hl
  · have hg := (Array.getElem?_eq_some_iff.1 hh).1
    refine ⟨g, cap, rfl, hg, ?_⟩
    have := run_convert_bytes_arg (P := Tryd.prog) w 41 5 (by kernel_rfl) (by kernel_rfl) g 0 l.length cap (l.map fun b : Nat => (b : Int)) (by simp) (fun i hi => by
      rw [Nat.zero_add]
      have h3 := h.cellAt (g := g) i (by show i < l.length * 1; omega)
      rw [h3]
      simp [hi]) 9 (by kernel_rfl)
    rw [this]
    have e : strOfNums (l.map fun b : Nat => (b : Int)) = textN l := by
      unfold strOfNums textN
      rw [List.map_map]
      rfl
    rw [e]

theorem highN_take (n m k d : Nat) (h : m = k + 1 + d) : (highN n m).take (k + 1) = (highN n m).take k ++ [n / 256 ^ d % 256] := by
  have hl : k < (highN n m).length := by rw [highN_length]; omega
  rw [List.take_succ_eq_append_getElem hl]
  congr 2
  subst h
  have key : ∀ (k : Nat) (h : k < (highN n (k + 1 + d)).length), (highN n (k + 1 + d))[k] = n / 256 ^ d % 256 := by
    intro k
    induction k with
    | zero => intro h; simp only [Nat.zero_add, Nat.add_comm 1 d, highN, List.getElem_cons_zero]
    | succ k ih =>
      intro h
      have e : k + 1 + 1 + d = (k + 1 + d) + 1 := by omega
      simp only [e, highN, List.getElem_cons_succ]
      exact ih _
  exact key k hl

theorem stopat {p : Prop} (h : p ∨ False) : p := h.elim id False.elim
theorem pow256 (d : Nat) : (256 : Nat) ^ d = 2 ^ (8 * d) := by rw [Nat.pow_mul]

set_option maxHeartbeats 800000 in
theorem writeNumber_any (w : World) (B : Nat) (v : Value) (l : List Nat) (n f t m : Nat) (hm : t = f + m) (h : Ow w B v (b8 l)) (hB : B ≤ w.heap.size) (h8 : m ≤ 8) (hl : l.length ≤ 1000) :
    Calls Tryd.prog 20 #[v, .int .u64 (n : Int), .int .i64 (f : Int), .int .i64 (t : Int)] w fun e w' => ∃ v', e = .returned v' ∧ Ow w' B v' (b8 (l ++ highN n m)) ∧ Below B w w' := by
  obtain ⟨ao, nn, c, rfl⟩ := h.sh
  have HO := Lib.hid h
  clear h
  have e0 : (t : Int) - (f : Int) = (m : Int) := by omega
  replace hm := Lib.hid hm
  go_enter Tryd.func20, Tryd.ntmps20
  go_wp2
  go_loopw [0, 9] (fun b i wr => ∃ k : Nat, k ≤ m ∧ i = .int .i64 ((m : Int) - 1 - (k : Int)) ∧ (∃ ao nn c, b = .slice ao nn c) ∧ Hid (Ow wr B b (b8 (l ++ (highN n m).take k))) ∧ Hid (Below B w wr)) (fun _ i _ => (intOf i + 1).toNat)
  case atStart => exact ⟨0, Nat.zero_le _, by simp, ⟨_, _, _, rfl⟩, Lib.hid (by simpa using HO.out), Lib.hid (Below.refl _ _)⟩
  case round =>
    obtain ⟨k, hk, rfl, ⟨ao, nn, c, rfl⟩, HW, HX⟩ := hrel
    by_cases hlt : k < m
    · obtain ⟨d, hd⟩ : ∃ d, m = k + 1 + d := ⟨m - (k + 1), by omega⟩
      have e1 : (m : Int) - 1 - (k : Int) = (d : Int) := by omega
      have HT := Lib.hid (highN_take n m k d hd)
      have hd8 : d ≤ 7 := by omega
      have HD := Lib.hid hd
      clear hd
      rw [e1]
      have hs := HX.out.size
      have e2 : (n : Int) / 2 ^ (8 * d) % 256 = ((n / 256 ^ d % 256 : Nat) : Int) := by
        rw [pow256]
        simp
      obtain ⟨Y, hY⟩ : ∃ Y, Y = n / 256 ^ d % 256 := ⟨_, rfl⟩
      rw [← hY] at e2 HT
      have hY2 : Y < 256 := by rw [hY]; exact Nat.mod_lt _ (by decide)
      clear hY
      have hlen : (b8 (l ++ (highN n m).take k)).length + 1 ≤ 100000000 := by rw [b8_length, List.length_append, List.length_take]; omega
      go_wp2_with ((at_builtin; refine wpList_append_sl (α := B8) rfl (.tmp 18) (.tmp 24) rfl B _ (b8 (l ++ (highN n m).take k)) rfl ?_ (.slice (some ⟨_, 0, none⟩) 1 1) [B8.mk Y] rfl ?_ ?_ ?_ ?_; exact (HW.out.alloc _); exact (Sl.litAt wr _ rfl [B8.mk Y] (by simp)); (first | omega | (simp; omega)); (simp; omega); intro v2 W2 ho2 ha2; have O2 := Lib.hid ho2; have y2 : Hid (Below B w W2) := Lib.hid (Below.trans (HX.out.alloc (Nat.le_trans hB hs) _) ha2.below); obtain ⟨a2, n2, c2, rfl⟩ := ho2.sh; clear ho2 ha2))
      refine ⟨⟨k + 1, by omega, by go_num, ⟨_, _, _, rfl⟩, Lib.hid ?_, y2⟩, by simp [intOf]⟩
      have h2 := O2.out
      have e5 : b8 (l ++ (highN n m).take (k + 1)) = b8 (l ++ (highN n m).take k) ++ [B8.mk Y] := by rw [HT.out, ← List.append_assoc, b8_append]; rfl
      rw [e5]
      exact h2
    · have hkm : k = m := by omega
      have hw := HW.out
      rw [hkm, List.take_of_length_le (by rw [highN_length]; omega)] at hw
      have HW2 := Lib.hid hw
      have e1 : (m : Int) - 1 - (k : Int) = -1 := by omega
      rw [e1]
      clear hw HW
      go_wp2
      go_ret
      exact ⟨_, rfl, HW2.out, HX.out⟩

theorem shl_or (x b : Nat) (hb : b < 256) : x * 256 ||| b = x * 256 + b := by
  have h := Nat.shiftLeft_add_eq_or_of_lt (i := 8) (b := b) (by simpa using hb) x
  rw [Nat.shiftLeft_eq] at h
  exact h.symm

set_option maxHeartbeats 800000 in
theorem readNumber_any (w : World) (s : ByteArray) (f m t : Nat) (hm : t = f + m) (ht : t ≤ s.size) (h8 : m ≤ 8) (hs : s.size ≤ 9223372036854775807) :
    Calls Tryd.prog 34 #[.string s, .int .i64 (f : Int), .int .i64 (t : Int)] w fun e w' => e = .returned (.int .u64 (numN (((bl s).drop f).take m) : Nat)) ∧ w = w' := by
  have hl := bl_length s
  have HLT : Hid (∀ k, numN ((((bl s).drop f).take m).take k) < 18446744073709551616) := Lib.hid (numN_take_lt (fun b hb => bl_lt s b (List.mem_of_mem_drop (List.mem_of_mem_take hb))) (by rw [List.length_take]; omega))
  have HAT : Hid (∀ (k : Nat) (h : k < s.size), (s[k]'h).toNat = (bl s).getD k 0) := Lib.hid (fun k h => bl_at s h)
  have hll : (((bl s).drop f).take m).length = m := by rw [List.length_take, List.length_drop, hl]; omega
  obtain ⟨L, hL⟩ : ∃ L, L = ((bl s).drop f).take m := ⟨_, rfl⟩
  rw [← hL] at HLT hll ⊢
  have HGD : Hid (∀ k, k < m → (bl s).getD (f + k) 0 = L.getD k 0) := Lib.hid (fun k hk => by
    rw [hL]
    simp only [List.getD_eq_getElem?_getD, List.getElem?_take, List.getElem?_drop, if_pos hk])
  clear hL
  replace hm := Lib.hid hm
  have htf : (t : Int) = (f : Int) + (m : Int) := by have := hm.out; omega
  have HTF := Lib.hid htf
  have HT := Lib.hid ht
  clear htf ht
  go_enter Tryd.func34, Tryd.ntmps34
  go_wp2
  go_loop [7, 8] (fun x i => ∃ (k E a : Nat), k ≤ m ∧ a = f + k ∧ i = .int .i64 (a : Int) ∧ x = .int .u64 (E : Int) ∧ Hid (E = numN (L.take k))) (fun _ i => t - (intOf i).toNat)
  case atStart => exact ⟨0, 0, f, by omega, by omega, rfl, rfl, Lib.hid (by simp [numN])⟩
  case round =>
    obtain ⟨k, E, a, hk, ha, rfl, rfl, HE⟩ := hrel
    have hts := HT.out
    have htm := HTF.out
    by_cases hlt : k < m
    · have hat : a < s.size := by omega
      have hlt2 : (a : Int) < (t : Int) := by omega
      have hb : ((s[a]'hat).toNat) = (bl s).getD a 0 := HAT.out a hat
      have hg : (bl s).getD a 0 = L.getD k 0 := by rw [ha]; exact HGD.out k hlt
      rw [hg] at hb
      obtain ⟨B, hB⟩ : ∃ B, B = L.getD k 0 := ⟨_, rfl⟩
      rw [← hB] at hb
      have hB2 : B < 256 := by rw [← hb]; exact (s[a]'hat).toNat_lt
      have hE2 : E * 256 + B < 18446744073709551616 := by
        have := HLT.out (k + 1)
        rw [numN_take _ _ (by rw [hll]; exact hlt), ← hB, ← HE.out] at this
        exact this
      have HB := Lib.hid hB
      clear hB hg
      have hE1 : E * 256 < 18446744073709551616 := Nat.lt_of_le_of_lt (Nat.le_add_right _ _) hE2
      have e1 : bits .or .u64 ((E : Int) * 256) (B : Int) = ((E * 256 + B : Nat) : Int) := by
        have := u64_or_nat (E * 256) B hE1 (by omega)
        rw [shl_or _ _ hB2] at this
        rw [Int.natCast_mul] at this
        exact this
      obtain ⟨F, hF⟩ : ∃ F, F = E * 256 + B := ⟨_, rfl⟩
      rw [← hF] at e1
      have HF := Lib.hid hF
      clear hF hts htm
      replace ha := Lib.hid ha
      go_wp2
      have hao := ha.out
      have htm := HTF.out
      refine ⟨⟨k + 1, F, a + 1, by omega, by omega, by go_num, rfl, Lib.hid ?_⟩, by simp [intOf]; omega⟩
      rw [numN_take _ _ (by rw [hll]; exact hlt), ← HE.out, ← HB.out, ← HF.out]
    · have hkk : k = m := by omega
      have hlt2 : ¬ (a : Int) < (t : Int) := by omega
      have e5 := Lib.hid (show E = numN L by rw [HE.out, List.take_of_length_le (by rw [hll]; omega)])
      clear hts htm
      replace ha := Lib.hid ha
      go_wp2
      go_ret
      exact ⟨by rw [← e5.out]; rfl, rfl⟩
end Go.Proofs.YtkfabocnhkmneaaDoor
