/- How deep nodes lie. -/
import Derived.Test.YthofgfdhcndpbaaD7
namespace Go.Proofs.Ythofgfdhcndpbaa
open Go.RowKit Go.Sort

theorem make_ow (w : World) (n : Nat) (hn : n ≤ 1000) :
    ∃ w', (Instr.makeSlice 25 (.int .i64 (n : Int)) (.int .i64 (n : Int))).run Try.prog w = .ok (.slice (some ⟨w.heap.size, 0, none⟩) n n) w' ∧ Ow w' w.heap.size (.slice (some ⟨w.heap.size, 0, none⟩) n n) (List.replicate n (0 : Int)) ∧ Ext w w' := by
  obtain ⟨i0, hi, hz0, hz1, hz2⟩ := info_parts (Elem.info (α := Int))
  have hz2 : i0.bytes = 8 := hz2
  obtain ⟨w', h1, h2, h3⟩ := run_make_full (P := Try.prog) w w.heap.size 25 (Elem.e Int) i0 (Elem.z Int) (Elem.k Int) (Elem.row (α := Int)) hi hz0 hz1 .i64 .i64 n (by rw [hz2]; omega) (by unfold maxLen; omega) (Nat.le_refl _)
  refine ⟨w', h1, ?_, (Below.refl _ w).grown h3 (Nat.le_refl _) (by simp)⟩
  have e1 : (madeCells (Elem.z Int).cells (n * Elem.k Int)).toList = cellsOf (List.replicate n (0 : Int)) := by
    rw [cells_i]
    show (madeCells #[Value.int .i64 0] (n * 1)).toList = _
    rw [toList_madeCells_one]
    simp
  rw [e1] at h2
  unfold Ow
  simpa using h2

theorem set_ow {w : World} {B g n c : Nat} {xs : List Int} (h : Ow w B (.slice (some ⟨g, 0, none⟩) n c) xs) (j : Nat) (x : Int) : Ow (w.setCell ⟨g, j, none⟩ (.int .i64 x)) B (.slice (some ⟨g, 0, none⟩) n c) (xs.set j x) ∧ w.grownBy (w.setCell ⟨g, j, none⟩ (.int .i64 x)) (some g) := by
  obtain ⟨ao, c', hv⟩ := h.sl.len
  simp only [Value.slice.injEq] at hv
  obtain ⟨_, rfl, _⟩ := hv
  obtain ⟨h1, h2⟩ := World.ownsRow.stored h j (.int .i64 x)
  refine ⟨?_, h2⟩
  unfold Ow
  rw [cells_i] at h1 ⊢
  rw [List.length_set, List.map_set]
  exact h1

/-- .. and what isn't through yet is nought; none is greater than how many are through. -/
structure DeepZ (n : Nat) (L : List Arc) (p d : List Int) : Prop where
  deep : Deep n L p d
  zero : ∀ i : Nat, (i : Int) ∉ p → d.getD i 0 = 0
  bnd : ∀ i : Nat, 0 ≤ d.getD i 0 ∧ d.getD i 0 ≤ p.length
theorem DeepZ.start (n : Nat) (L : List Arc) : DeepZ n L [] (List.replicate n 0) := by
  have hz : ∀ i : Nat, (List.replicate n (0 : Int)).getD i 0 = 0 := fun i => by
    by_cases h : i < n <;> simp [h]
  exact ⟨⟨by simp, by simp⟩, fun i _ => hz i, fun i => by rw [hz i]; simp⟩
theorem mostAt_bnd {L : List Arc} {d : List Int} {v b : Int} (l : List Int) (h : ∀ i : Nat, d.getD i 0 ≤ b) (hb : 0 ≤ b) : 0 ≤ mostAt L d v l ∧ mostAt L d v l ≤ b + 1 := by
  refine snoc_ind (P := fun l => 0 ≤ mostAt L d v l ∧ mostAt L d v l ≤ b + 1) ⟨by simp [mostAt], by simp [mostAt]; omega⟩ (fun l u ih => ?_) l
  rw [mostAt_snoc]
  have := h u.toNat
  split <;> omega
theorem DeepZ.next {N : Int} {L : List Arc} {t p q d : List Int} {v : Int} (h : PI N.toNat L t []) (e : t = p ++ v :: q) (hd : DeepZ N.toNat L p d) : DeepZ N.toNat L (p ++ [v]) (d.set v.toNat (mostAt L d v p)) := by
  have hv : 0 ≤ v ∧ v < N := by have := (h.mem (x := v)).1 (.inl (by rw [e]; simp)); omega
  have hm := mostAt_bnd (L := L) (v := v) p (fun i => (hd.bnd i).2) (by omega)
  refine ⟨hd.deep.next h e, fun i hi => ?_, fun i => ?_⟩
  · have h1 : (i : Int) ∉ p := fun c => hi (List.mem_append_left _ c)
    have h2 : v.toNat ≠ i := fun c => hi (by rw [List.mem_append, List.mem_singleton]; right; omega)
    rw [getD_set_ne h2]
    exact hd.zero i h1
  · rw [List.length_append, List.length_singleton]
    by_cases h2 : v.toNat = i
    · subst h2
      rw [getD_set_self (by rw [hd.deep.len]; omega)]
      omega
    · rw [getD_set_ne h2]
      have := hd.bnd i
      omega
theorem set_getD (d : List Int) (i : Nat) : d.set i (d.getD i 0) = d := by
  by_cases h : i < d.length
  · rw [getD_at h, List.set_getElem_self]
  · exact List.set_eq_of_length_le (by omega)

/-- Depths come out. -/
def GivesD (w : World) (n : Nat) (L : List Arc) (e : Ending) (w' : World) : Prop := ∃ v d, e = .returned (.tuple #[v, .bool true]) ∧ Ow w' w.heap.size v d ∧ IsDepth n L d ∧ Ext w w'

theorem depths_no (w : World) (N : Int) (v : Value) (E : List Arc) (h : Sl w v E) (hno : ordB N E = false) :
    Calls Try.prog 15 #[.int .i64 N, v] w (GivesT w [] false) := by
  obtain ⟨ao, c, rfl⟩ := h.len
  have HS := Lib.hid h
  have HB := Lib.hid hno
  have HX : Hid (ordL N E = []) := Lib.hid (by unfold ordL; rw [if_neg (by rw [hno]; simp)])
  clear h hno
  go_enter Try.func15, Try.ntmps15
  go_wp2_with (first
    | (go_at_call 12; refine (order_any _ N _ E (HS.out.ext (by repeat (first | exact Ext.refl _ | assumption | refine Ext.alloc ?_ _ | refine Ext.drew ?_ | refine Ext.drewN ?_ _))) [] false HX.out HB.out).mono ?_; rintro e w1 ⟨v1, rfl, ho1, x1⟩; obtain ⟨ao1, n1, c1, rfl⟩ := ho1.sh; clear ho1))
  go_ret2
  exact ⟨_, rfl, Ow.nil _ _, x1⟩

set_option maxRecDepth 100000 in
set_option maxHeartbeats 4000000 in
theorem depths_yes (w : World) (n : Nat) (v : Value) (E : List Arc) (h : Sl w v E) (ok : OkD (n : Int) E) (he : (peeled (n : Int) E).2 = []) :
    Calls Try.prog 15 #[.int .i64 n, v] w (GivesD w n E) := by
  obtain ⟨ao, c, rfl⟩ := h.len
  have HS := Lib.hid h
  have h64 := ok.n64
  obtain ⟨hp, _⟩ := peeled_spec ok
  rw [he] at hp
  have hB : ordB (n : Int) E = true := ordB_iff.2 ⟨ok, he⟩
  have hX : ordL (n : Int) E = (peeled (n : Int) E).1 := by unfold ordL; rw [if_pos hB]
  obtain ⟨O, hO⟩ : ∃ O, O = (peeled (n : Int) E).1 := ⟨_, rfl⟩
  rw [← hO] at hX hp
  have hlen : O.length = n := by have := hp.len; simpa using this
  have HB := Lib.hid hB
  have HX := Lib.hid hX
  have HP := Lib.hid hp
  have HO := Lib.hid ok
  have hn64 : n ≤ 64 := by omega
  have HLEN := Lib.hid hlen
  clear h ok he hp hB hX hO hlen
  go_enter Try.func15, Try.ntmps15
  go_wp2_with (first
    | (go_at_call 12; refine (order_any _ _ _ E (HS.out.ext (by repeat (first | exact Ext.refl _ | assumption | refine Ext.alloc ?_ _ | refine Ext.drew ?_ | refine Ext.drewN ?_ _))) O true HX.out HB.out).mono ?_; rintro e w1 ⟨v1, rfl, ho1, x1⟩; obtain ⟨ao1, c1, rfl⟩ := ho1.sl.len; rw [HLEN.out] at ho1 ⊢; have O1 := Lib.hid ho1.sl; clear ho1)
    | (go_at_call 34; refine (asker_any _ _ _ E (HS.out.ext (by repeat (first | exact Ext.refl _ | assumption | exact Hid.out (by assumption) | refine Ext.alloc ?_ _ | refine Ext.drew ?_ | refine Ext.drewN ?_ _ | refine Ext.trans ?_ (by assumption)))) HO.out).mono ?_; rintro e w2 ⟨fv, rfl, ht, x2⟩; have y2 := Ext.trans x1 x2; obtain ⟨g, lb, rfl, eg, hq⟩ := ht.any; have HQ := Lib.hid hq; clear ht hq; obtain ⟨w3, hmk, ho3, x3⟩ := make_ow w2 n (by omega); have y3 := Ext.trans y2 x3; have O3 := Lib.hid ho3; clear ho3))
  clear hmk
  obtain ⟨gd, hgd⟩ : ∃ gd, gd = w2.heap.size := ⟨_, rfl⟩
  rw [← hgd] at O3 ⊢
  have HGD := Lib.hid hgd
  clear hgd
  have X3 := Lib.hid x3
  have hO1 : Ext w1 w2 := x2
  go_loopw [28] (fun i wr => ∃ k : Nat, k ≤ n ∧ i = .int .i64 k ∧ Hid (∃ d, DeepZ n E (O.take k) d ∧ Ow wr gd (.slice (some ⟨gd, 0, none⟩) n n) d) ∧ Hid (Ext w2 wr)) (fun i _ => n - (intOf i).toNat)
  case atStart => exact ⟨0, Nat.zero_le _, rfl, Lib.hid ⟨_, DeepZ.start n E, O3.out⟩, Lib.hid X3.out⟩
  case round =>
    obtain ⟨k, hk, rfl, HD, HX⟩ := hrel
    by_cases hlt : k < n
    · have hkO : k < O.length := by rw [HLEN.out]; exact hlt
      obtain ⟨b1, o1, hao, hq1, hnc1, hc163, hb1, hv0⟩ := O1.out.intsAt hkO
      subst hao
      obtain ⟨vz, hvz⟩ : ∃ vz, vz = O.getD k 0 := ⟨_, rfl⟩
      rw [← hvz] at hv0
      have hvr := (HP.out.mem (x := vz)).1 (.inl (by rw [hvz, getD_at hkO]; exact List.getElem_mem hkO))
      obtain ⟨vn, rfl⟩ := Int.eq_ofNat_of_zero_le hvr.1
      have hvn : vn < n := by have := hvr.2; omega
      have HV := Lib.hid hvz
      have hv1 := ((hO1.trans HX.out).cell (p := ⟨b1, o1 + k, none⟩) hb1).trans hv0
      obtain ⟨d, hdz, hod⟩ := HD.out
      have HDZ := Lib.hid hdz
      have HOD := Lib.hid hod
      have hk0 : (0 : Int) ≤ (k : Int) := by omega
      have hkc : (k : Int) ≤ (c1 : Int) := by omega
      have hkc2 : k ≤ c1 := by omega
      have hkn : (k : Int) ≤ (n : Int) := by omega
      clear hvz hv0 hdz hod HD hvr hq1
      go_wp2
      go_loopw [37] (fun s37 wi => ∃ j : Nat, j ≤ k ∧ s37 = .int .i64 j ∧ Hid (Ow wi gd (.slice (some ⟨gd, 0, none⟩) n n) (d.set vn (mostAt E d (vn : Int) ((O.take k).take j)))) ∧ Hid (Ext w2 wi)) (fun s37 _ => k - (intOf s37).toNat)
      case atStart =>
        refine ⟨0, Nat.zero_le _, rfl, Lib.hid ?_, HX⟩
        have hz : d.getD vn 0 = 0 := HDZ.out.zero vn (by
          intro hm
          have hn := HP.out.nodup
          rw [List.append_nil] at hn
          have h2 : O.take (k + 1) = O.take k ++ [(vn : Int)] := by rw [take_next hkO 0, ← HV.out]
          have h3 : (O.take (k + 1)).Nodup := List.Nodup.sublist (List.take_sublist _ _) hn
          rw [h2] at h3
          exact (List.nodup_append.1 h3).2.2 _ hm _ (by simp) rfl)
        have e1 : mostAt E d (vn : Int) ((O.take k).take 0) = d.getD vn 0 := by rw [hz]; rfl
        rw [e1, set_getD]
        exact HOD.out
      case round =>
        obtain ⟨j, hj, rfl, HI, HXI⟩ := hrel
        by_cases hjk : j < k
        · have hjO : j < O.length := by rw [HLEN.out]; omega
          obtain ⟨b2, o2, hao2, hq2, _, _, _, hu0⟩ := O1.out.intsAt hjO
          simp only [Option.some.injEq, Addr.mk.injEq, and_true] at hao2
          obtain ⟨rfl, rfl⟩ := hao2
          obtain ⟨uz, huz⟩ : ∃ uz, uz = O.getD j 0 := ⟨_, rfl⟩
          rw [← huz] at hu0
          have hur := (HP.out.mem (x := uz)).1 (.inl (by rw [huz, getD_at hjO]; exact List.getElem_mem hjO))
          obtain ⟨un, rfl⟩ := Int.eq_ofNat_of_zero_le hur.1
          have hun : un < n := by have := hur.2; omega
          have HU := Lib.hid huz
          have hu1 := ((hO1.trans HXI.out).cell (p := ⟨b1, o1 + j, none⟩) hb1).trans hu0
          have hjc : (j : Int) < (k : Int) := by omega
          obtain ⟨s, hs⟩ : ∃ s, decide ((⟨(un : Int), (vn : Int)⟩ : Arc) ∈ E) = s := ⟨_, rfl⟩
          have HC : Hid (Calls Try.prog g (#[.int .i64 (un : Int), .int .i64 (vn : Int)] ++ lb) wr fun e w9 => e = .returned (.bool s) ∧ w9 = wr) := Lib.hid (hs ▸ HQ.out wr un vn (by omega) (by omega) (by omega) (by omega) HXI.out)
          have hsn : (O.take k).take (j + 1) = (O.take k).take j ++ [(un : Int)] := by
            rw [List.take_take, List.take_take, Nat.min_eq_left (by omega), Nat.min_eq_left (by omega), take_next hjO 0, ← HU.out]
          have HM : Hid (mostAt E d (vn : Int) ((O.take k).take (j + 1)) = if s = true then max (mostAt E d (vn : Int) ((O.take k).take j)) (d.getD un 0 + 1) else mostAt E d (vn : Int) ((O.take k).take j)) := Lib.hid (by
            rw [hsn, mostAt_snoc, ← hs]
            simp)
          have hne : vn ≠ un := by
            intro e
            have hn := HP.out.nodup
            rw [List.append_nil] at hn
            have a1 := HV.out
            have a2 := HU.out
            rw [getD_at hkO] at a1
            rw [getD_at hjO] at a2
            have := (List.getElem_inj hn).1 (a1.symm.trans ((by rw [e] : ((vn : Int)) = (un : Int)).trans a2))
            omega
          obtain ⟨m, hm⟩ : ∃ m, m = mostAt E d (vn : Int) ((O.take k).take j) := ⟨_, rfl⟩
          rw [← hm] at HI HM
          have hmb := mostAt_bnd (L := E) (v := (vn : Int)) ((O.take k).take j) (fun i => (HDZ.out.bnd i).2) (by omega)
          rw [← hm, List.length_take] at hmb
          have hdb := HDZ.out.bnd un
          rw [List.length_take] at hdb
          obtain ⟨du, hdu⟩ : ∃ du, du = d.getD un 0 := ⟨_, rfl⟩
          rw [← hdu] at HM hdb
          have hdlen := HDZ.out.deep.len
          have hgu : (d.set vn m).getD un 0 = du := by rw [getD_set_ne hne, hdu]
          have hgv : (d.set vn m).getD vn 0 = m := getD_set_self (by rw [hdlen]; exact hvn) _
          obtain ⟨bv, ov, ev, hq3, _, _, _, cv⟩ := HI.out.sl.intsAt (show vn < (d.set vn m).length by rw [List.length_set, hdlen]; exact hvn)
          obtain ⟨bu, ou, eu, hq4, _, _, _, cu⟩ := HI.out.sl.intsAt (show un < (d.set vn m).length by rw [List.length_set, hdlen]; exact hun)
          simp only [Option.some.injEq, Addr.mk.injEq, and_true] at ev eu
          obtain ⟨rfl, rfl⟩ := ev
          obtain ⟨rfl, rfl⟩ := eu
          rw [hgv, Nat.zero_add] at cv
          rw [hgu, Nat.zero_add] at cu
          have hfr : wr.frozen? ⟨gd, vn, none⟩ = false := World.ownsRow.frozenAt (show wr.ownsRow _ _ _ (.slice (some ⟨gd, 0, none⟩) (d.set vn m).length n) (d.set vn m).length _ by have := HI.out; unfold Ow at this; rw [List.length_set, hdlen] at this ⊢; exact this) vn
          have hdb1 : 0 ≤ du := hdb.1
          have hdb2 : du ≤ 64 := by omega
          have hmb1 : 0 ≤ m := hmb.1
          have hmb2 : m ≤ 65 := by omega
          clear hq2 hq3 hq4 huz hu0 hs hsn hm hdu hgu hgv hmb hdb hdlen hur hne
          have hsum : IntKind.i64.wrap (du + 1) = du + 1 := IntWalk.i64_in _ (by omega)
          have HF : Hid (∃ W1 : World, W1 = { wr with drawn := wr.drawn + 1 } ∧ W1.cell? ⟨gd, vn, none⟩ = some (.int .i64 m) ∧ W1.cell? ⟨gd, un, none⟩ = some (.int .i64 du) ∧ W1.frozen? ⟨gd, vn, none⟩ = false ∧ Ow W1 gd (.slice (some ⟨gd, 0, none⟩) n n) (d.set vn m) ∧ Ext w2 W1) := Lib.hid ⟨_, rfl, cv, cu, hfr, HI.out, HXI.out.drew⟩
          cases s
          · clear hsum cv cu hfr
            go_wp2_with (go_at_fn g; refine HC.out.mono ?_; rintro e w9 ⟨rfl, rfl⟩)
            go_roundw
            case rel => exact ⟨j + 1, by omega, by go_num, Lib.hid (by rw [HM.out]; exact HI.out), HXI⟩
            case measure => simp [intOf]; omega
          · clear hsum cv cu hfr
            go_wp2_with (go_at_fn g; refine HC.out.mono ?_; rintro e w9 ⟨rfl, rfl⟩)
            refine wp_region_still_tail 13 (by kernel_rfl) (by kernel_rfl) ?_
            simp only [List.take_succ_cons, List.take_zero, List.drop_succ_cons, List.drop_zero]
            obtain ⟨W1, hW1, cv, cu, hfr, ho1, hx1⟩ := HF.out
            rw [← hW1]
            have hsum : IntKind.i64.wrap (du + 1) = du + 1 := IntWalk.i64_in _ (by omega)
            have HO1 := Lib.hid ho1
            have HX1 := Lib.hid hx1
            clear hW1 ho1 hx1
            repeat still_step
            refine wpStill_nil ?_
            clear hsum
            go_wp2
            go_roundw
            case rel => exact ⟨j + 1, by omega, by go_num, Lib.hid (by rw [HM.out]; simp only [if_true]; have := (set_ow HO1.out vn (max m (du + 1))).1; rwa [List.set_set] at this), Lib.hid (HX1.out.grown (set_ow HO1.out vn (max m (du + 1))).2 HX1.out.size (fun q e => by cases e; rw [HGD.out]; exact Nat.le_refl _))⟩
            case measure => simp [intOf]; omega
        · have hjk2 : j = k := by omega
          have HO2 : Hid (Ow wr gd (.slice (some ⟨gd, 0, none⟩) n n) (d.set vn (mostAt E d (vn : Int) (O.take k)))) := Lib.hid (by
            have := HI.out
            rwa [hjk2, List.take_of_length_le (by rw [List.length_take]; omega)] at this)
          have HZ2 : Hid (DeepZ n E (O.take (k + 1)) (d.set vn (mostAt E d (vn : Int) (O.take k)))) := Lib.hid (by
            have e1 : O = O.take k ++ (vn : Int) :: O.drop (k + 1) := by
              have := HV.out
              rw [getD_at hkO] at this
              rw [this, ← List.drop_eq_getElem_cons hkO, List.take_append_drop]
            have := HDZ.out
            rw [take_next hkO 0, ← HV.out]
            exact DeepZ.next (N := (n : Int)) HP.out e1 this)
          clear hjk2 HI
          go_wp2
          go_roundw
          case rel => exact ⟨k + 1, by omega, by go_num, Lib.hid ⟨_, HZ2.out, HO2.out⟩, HXI⟩
          case measure => simp [intOf]; omega
    · have hkn : k = n := by omega
      obtain ⟨d, hdz, hod⟩ := HD.out
      rw [hkn, List.take_of_length_le (by rw [HLEN.out]; exact Nat.le_refl _)] at hdz
      have HDZ := Lib.hid hdz
      have HOD := Lib.hid hod
      clear hkn hdz hod HD
      go_wp2
      go_ret2
      exact ⟨_, d, rfl, HOD.out.mono (by rw [HGD.out]; exact y2.size), Deep.all (N := (n : Int)) HP.out HDZ.out.deep, y2.trans HX.out⟩

end Go.Proofs.Ythofgfdhcndpbaa
