/- What the program's nets answer, and what they mean then: all but making one, turning a bit, and asking whether all is quiet. -/
import Derived.Test.YtjnnfnmapigagaaNQ
namespace Go.Proofs.Ytjnnfnmapigagaa
open Go.RowKit Go.Maps

section
variable {w w' : World} {p : Nat} {S : NetS} {F : Nat → Prop} {m : Nat} {D : DataW Unit} {G : Int → Int → Nat} {O : Nat → Option (Int × Int)}

theorem two_in {S : NetS} (ok : S.Ok) {a b : Int} (h : S.two a b = true) : In64 a ∧ In64 b := by
  have := ok.nodes
  simp only [NetS.two, Bool.and_eq_true, decide_eq_true_eq] at h
  unfold In64
  omega

theorem between_yes (h : NA w p S F m D G O) (a b : Int) (h2 : S.two a b = true) :
    Calls Try.prog 32 #[.pointer (some ⟨p, 0, none⟩), .int .i64 a, .int .i64 b] w fun e w' => e = .returned (.pointer (some ⟨G a b, 0, none⟩)) ∧ w = w' := by
  obtain ⟨ha, hb⟩ := two_in h.ok h2
  have c0 := blk_cell h.blk 0 rfl
  have hrun : (Instr.lookup 54 (.map (some m)) (.agg #[.int .i64 a, .int .i64 b]) true).run Try.prog w = .ok (.tuple #[.pointer (some ⟨G a b, 0, none⟩), .bool true]) w := by
    rcases look_way h.map a b with ⟨g, hg, _, _, ht⟩ | ⟨_, hz⟩
    · have h1 := ht (.lit (.bool true))
      rw [h.tells a b ha hb, if_pos h2] at h1
      have h2 : (G a b : Int) = (g : Int) := by simpa using h1
      have : G a b = g := by omega
      rw [this]
      exact hg
    · exfalso
      have h1 := hz ha hb (.lit (.bool true))
      rw [h.tells a b ha hb, if_pos h2] at h1
      simp at h1
  clear h h2 ha hb
  go_enter Try.func32, Try.ntmps32
  go_wp2
  go_ret
  exact ⟨rfl, rfl⟩

theorem between_no (h : NA w p S F m D G O) (a b : Int) (h2 : S.two a b = false) :
    Calls Try.prog 32 #[.pointer (some ⟨p, 0, none⟩), .int .i64 a, .int .i64 b] w fun e w' => e = .returned (.pointer (some ⟨w.heap.size, 0, none⟩)) ∧ RAt 75 w' 0 w.heap.size none 0 ([] : List BV) ∧ Ext w w' := by
  have c0 := blk_cell h.blk 0 rfl
  have hrun : (Instr.lookup 54 (.map (some m)) (.agg #[.int .i64 a, .int .i64 b]) true).run Try.prog w = .ok (.tuple #[.pointer none, .bool false]) w := by
    rcases look_way h.map a b with ⟨g, hg, ha, hb, ht⟩ | ⟨hg, _⟩
    · exfalso
      have h1 := ht (.lit (.bool true))
      rw [h.tells a b ha hb, if_neg (by rw [h2]; simp)] at h1
      simp at h1
    · exact hg
  clear h h2
  go_enter Try.func32, Try.ntmps32
  go_wp2_with fail
  refine (new_b 0 0 w (Nat.zero_le _)).mono ?_
  rintro e w1 ⟨rfl, hr, hx⟩
  have HR := Lib.hid hr
  have HX := Lib.hid hx
  clear hr hx
  go_wp2
  go_ret
  exact ⟨rfl, HR.out, HX.out⟩

theorem pCount (h0 : NAt w p S F) (a b : Int) :
    Calls Try.prog 19 #[.pointer (some ⟨p, 0, none⟩), .int .i64 a, .int .i64 b] w (Moves p S F (.int .i64 ((S.f a b).length : Int)) w) := by
  obtain ⟨m, D, G, O, h⟩ := h0
  have H := Lib.hid h
  by_cases h2 : S.two a b = true
  · obtain ⟨vs, q, R⟩ := h.rows a b h2
    have HB := Lib.hid (between_yes h a b h2)
    have HR := Lib.hid R
    clear h R h2
    go_enter Try.func19, Try.ntmps19
    go_wp2_with fail
    refine HB.out.mono ?_
    rintro e w1 ⟨rfl, rfl⟩
    go_wp2_with fail
    refine (len_b HR.out.ring).mono ?_
    rintro e w1 ⟨rfl, rfl⟩
    go_wp2
    go_ret
    have e := HR.out.all.length
    rw [e]
    exact H.out.same (Ext.refl _) _
  · have h2 : S.two a b = false := by simpa using h2
    have HE := Lib.hid (h.ok.none a b h2)
    have HB := Lib.hid (between_no h a b h2)
    clear h h2
    go_enter Try.func19, Try.ntmps19
    go_wp2_with fail
    refine HB.out.mono ?_
    rintro e w1 ⟨rfl, hr, hx⟩
    have HX := Lib.hid hx
    clear hx
    go_wp2_with fail
    refine (len_b hr).mono ?_
    rintro e w2 ⟨rfl, rfl⟩
    clear hr
    go_wp2
    go_ret
    rw [HE.out]
    exact H.out.same HX.out _

/-- what lies at a place -/
theorem at_row {w : World} {own : Nat → Prop} {g room : Nat} {vs : List BV} {q : Option Nat} {l : List ByteArray} (R : Row w own g room vs q l) {k : Int} (h0 : 0 ≤ k) (h1 : k < (l.length : Int)) :
    ∃ (v : BV) (b : Nat) (s : ByteArray), vs[k.toNat]? = some v ∧ l[k.toNat]? = some s ∧ l.getD k.toNat ⟨#[]⟩ = s ∧ v = ⟨some ⟨b, 0, none⟩, s.size, v.c⟩ ∧ Byt w b (bl s) ∧ own b ∧
      (convert 57 9 (.slice (some ⟨b, 0, none⟩) s.size v.c)).run Try.prog w = .ok (.string s) w := by
  have hl := R.all.length
  have hk : k.toNat < l.length := by omega
  have hk2 : k.toNat < vs.length := by omega
  have e1 : vs[k.toNat]? = some (vs[k.toNat]) := List.getElem?_eq_getElem hk2
  have e2 : l[k.toNat]? = some (l[k.toNat]) := List.getElem?_eq_getElem hk
  obtain ⟨b, f1, f2, f3, f4, _⟩ := R.all.get e1 e2
  refine ⟨_, b, _, e1, e2, by simp [hk], ?_, f3, f4, ?_⟩
  · cases hv : vs[k.toNat]
    rw [hv] at f1 f2
    simp only at f1 f2
    rw [f1, f2]
  · have := f3.text l[k.toNat].size vs[k.toNat].c (bl_length _)
    rw [this, textN_bl]
theorem nil_text {w : World} : (convert 57 9 (.slice none 0 0)).run Try.prog w = .ok (.string ⟨#[]⟩) w := by
  kernel_rfl

theorem pLook (h0 : NAt w p S F) (a b k : Int) :
    Calls Try.prog 22 #[.pointer (some ⟨p, 0, none⟩), .int .i64 a, .int .i64 b, .int .i64 k] w (Moves p S F (.tuple #[.string (S.look a b k), .bool (S.there a b k)]) w) := by
  obtain ⟨m, D, G, O, h⟩ := h0
  have H := Lib.hid h
  by_cases h2 : S.two a b = true
  · obtain ⟨vs, q, R⟩ := h.rows a b h2
    have HB := Lib.hid (between_yes h a b h2)
    by_cases ht : S.there a b k = true
    · obtain ⟨hk0, hk1⟩ := there_iff.1 ht
      obtain ⟨v, g, s, hv, hs, hd, rfl', hb, _, hcv⟩ := at_row R hk0 hk1
      unfold NetS.look
      rw [if_pos ht, hd, ht]
      have HA := Lib.hid (at_yes_b R.ring k hk0 (by rw [R.all.length]; exact hk1) v hv)
      rw [rfl'] at HA
      have HC := Lib.hid hcv
      clear h R h2 ht hk0 hk1 hv hs hd rfl' hb hcv
      go_enter Try.func22, Try.ntmps22
      go_wp2_with fail
      refine HB.out.mono ?_
      rintro e w1 ⟨rfl, rfl⟩
      go_wp2_with fail
      refine HA.out.mono ?_
      rintro e w1 ⟨rfl, rfl⟩
      have hcv := HC.out
      go_wp2
      go_ret2
      exact H.out.same (Ext.refl _) _
    · have hl := R.all.length
      have hk : k < 0 ∨ (vs.length : Int) ≤ k := by
        rw [there_iff] at ht
        omega
      unfold NetS.look
      rw [if_neg ht, show S.there a b k = false from by simpa using ht]
      have HA := Lib.hid (at_no_b R.ring k hk)
      clear h R h2 ht hl hk
      have hcv := nil_text (w := w)
      go_enter Try.func22, Try.ntmps22
      go_wp2_with fail
      refine HB.out.mono ?_
      rintro e w1 ⟨rfl, rfl⟩
      go_wp2_with fail
      refine HA.out.mono ?_
      rintro e w1 ⟨rfl, rfl⟩
      go_wp2
      go_ret2
      exact H.out.same (Ext.refl _) _
  · have h2 : S.two a b = false := by simpa using h2
    have HE := h.ok.none a b h2
    have HB := Lib.hid (between_no h a b h2)
    have ht : S.there a b k = false := by
      unfold NetS.there
      rw [HE]
      simp
    unfold NetS.look
    rw [if_neg (by rw [ht]; simp), ht]
    clear h h2 HE ht
    go_enter Try.func22, Try.ntmps22
    go_wp2_with fail
    refine HB.out.mono ?_
    rintro e w1 ⟨rfl, hr, hx⟩
    have HX := Lib.hid hx
    clear hx
    go_wp2_with fail
    refine (at_no_b hr k (by simp; omega)).mono ?_
    rintro e w2 ⟨rfl, rfl⟩
    clear hr
    have hcv := nil_text (w := w1)
    go_wp2
    go_ret2
    exact H.out.same HX.out _

theorem may_two {S : NetS} {a b : Int} (h : S.two a b = true) : S.may a b = decide ((S.f a b).length < S.room) := by unfold NetS.may; rw [h, Bool.true_and]
theorem may_no {S : NetS} {a b : Int} (h : S.two a b = false) : S.may a b = false := by unfold NetS.may; rw [h, Bool.false_and]

theorem pSend (h0 : NAt w p S F) (a b : Int) (s : ByteArray) (hs : s.size ≤ 1000) :
    Calls Try.prog 24 #[.pointer (some ⟨p, 0, none⟩), .int .i64 a, .int .i64 b, .string s] w (Moves p (S.send a b s) F (.bool (S.may a b)) w) := by
  obtain ⟨m, D, G, O, h⟩ := h0
  have H := Lib.hid h
  have hbytes := bytes_of (s := s)
  by_cases h2 : S.two a b = true
  · obtain ⟨vs, q, R⟩ := h.rows a b h2
    have HB := Lib.hid (between_yes h a b h2)
    have hl := R.all.length
    have HR := Lib.hid R
    have H2 := Lib.hid h2
    by_cases hm : (S.f a b).length < S.room
    · have hm2 : S.may a b = true := by rw [may_two h2]; simpa using hm
      unfold NetS.send
      rw [if_pos hm2, hm2]
      have HOk := Lib.hid (h.ok.put h2 (l := S.f a b ++ [s]) (by simp; omega) (fun t ht => by
        rcases List.mem_append.1 ht with ht | ht
        · exact h.ok.short a b t ht
        · rw [List.mem_singleton] at ht; subst ht; exact hs))
      have HL := Lib.hid (show vs.length < S.room by omega)
      clear h R h2 hl hm hm2 hs
      go_enter Try.func24, Try.ntmps24
      go_wp2_with fail
      refine HB.out.mono ?_
      rintro e w1 ⟨rfl, rfl⟩
      go_wp2_with fail
      refine (push_yes_b (HR.out.ring.ext (newB_ext w s)) (Nat.zero_le _) ⟨some ⟨w.heap.size, 0, none⟩, s.size, capB w s⟩ HL.out).mono ?_
      rintro e w2 ⟨rfl, q', hr, hq⟩
      have HR2 := Lib.hid hr
      have HQ := Lib.hid hq
      clear hr hq
      go_wp2
      go_ret
      have hq := HQ.out
      have x := newB_ext w s
      refine H.out.put H2.out HOk.out (hq.os.trans x.os) (hq.tape.trans x.tape) (hq.output.trans x.output) (Nat.le_trans x.size hq.size) (fun k hk ho => ?_) (RowAt.push HR.out x (Nat.le_refl _) (newB_byt w s) hq HR2.out) _
      exact (hq.block k (Nat.lt_of_lt_of_le hk x.size) (fun e => ho (e ▸ HR.out.og)) (fun e => ho (HR.out.oq k e))).trans (x.block k hk)
    · have hm2 : S.may a b = false := by rw [may_two h2]; simpa using hm
      unfold NetS.send
      rw [if_neg (by rw [hm2]; simp), hm2]
      have HL := Lib.hid (show S.room ≤ vs.length by omega)
      clear h R h2 hl hm hm2 hs
      go_enter Try.func24, Try.ntmps24
      go_wp2_with fail
      refine HB.out.mono ?_
      rintro e w1 ⟨rfl, rfl⟩
      go_wp2_with fail
      refine (push_no_b (HR.out.ring.ext (newB_ext w s)) ⟨some ⟨w.heap.size, 0, none⟩, s.size, capB w s⟩ HL.out).mono ?_
      rintro e w2 ⟨rfl, hq⟩
      have HQ := Lib.hid hq
      clear hq
      go_wp2
      go_ret
      obtain ⟨n, rfl⟩ := HQ.out
      exact H.out.same (Ext.drewN (newB_ext w s) _) _
  · have h2 : S.two a b = false := by simpa using h2
    have hm2 := may_no h2
    have HB := Lib.hid (between_no h a b h2)
    unfold NetS.send
    rw [if_neg (by rw [hm2]; simp), hm2]
    clear h h2 hm2 hs
    go_enter Try.func24, Try.ntmps24
    go_wp2_with fail
    refine HB.out.mono ?_
    rintro e w1 ⟨rfl, hr, hx⟩
    have HX := Lib.hid hx
    have HR := Lib.hid hr
    clear hx hr
    go_wp2_with fail
    refine (push_no_b (HR.out.ext (newB_ext w1 s)) ⟨some ⟨w1.heap.size, 0, none⟩, s.size, capB w1 s⟩ (Nat.zero_le _)).mono ?_
    rintro e w2 ⟨rfl, hq⟩
    have HQ := Lib.hid hq
    clear hq
    go_wp2
    go_ret
    obtain ⟨n, rfl⟩ := HQ.out
    exact H.out.same (Ext.trans HX.out (Ext.drewN (newB_ext w1 s) _)) _

theorem pDeliver (h0 : NAt w p S F) (a b k : Int) :
    Calls Try.prog 26 #[.pointer (some ⟨p, 0, none⟩), .int .i64 a, .int .i64 b, .int .i64 k] w (Moves p (S.deliver a b k) F (.tuple #[.string (S.look a b k), .bool (S.there a b k)]) w) := by
  obtain ⟨m, D, G, O, h⟩ := h0
  have H := Lib.hid h
  by_cases h2 : S.two a b = true
  · obtain ⟨vs, q, R⟩ := h.rows a b h2
    have HB := Lib.hid (between_yes h a b h2)
    by_cases ht : S.there a b k = true
    · obtain ⟨hk0, hk1⟩ := there_iff.1 ht
      obtain ⟨v, g, s, hv, hs, hd, rfl', hb, ho, _⟩ := at_row R hk0 hk1
      unfold NetS.look NetS.deliver
      rw [if_pos ht, if_pos ht, hd, ht]
      have HA := cut_yes_b R.ring k.toNat v hv
      rw [rfl', show ((k.toNat : Nat) : Int) = k from by omega] at HA
      replace HA := Lib.hid HA
      have HR := Lib.hid R
      have H2 := Lib.hid h2
      have HY := Lib.hid hb
      have HOk := Lib.hid (h.ok.put h2 (l := (S.f a b).eraseIdx k.toNat) (Nat.le_trans (List.length_eraseIdx_le ..) (h.ok.few a b)) (fun t ht => h.ok.short a b t (List.mem_of_mem_eraseIdx ht)))
      have HN : Hid (¬ (g = G a b) ∧ q ≠ some g) := Lib.hid (by
        obtain ⟨b', e1, _, _, _, e5, e6⟩ := R.all.get hv hs
        rw [rfl'] at e1
        have : g = b' := by simpa using e1
        subst this
        exact ⟨e5, e6⟩)
      clear h R h2 ht hk0 hk1 hs hd hb ho hv rfl'
      go_enter Try.func26, Try.ntmps26
      go_wp2_with fail
      refine HB.out.mono ?_
      rintro e w1 ⟨rfl, rfl⟩
      go_wp2_with fail
      refine HA.out.mono ?_
      rintro e w2 ⟨rfl, q', hr, hq⟩
      have hcv := (HY.out.keep (hq.block g HY.out.lt HN.out.1 HN.out.2)).text s.size v.c (bl_length _)
      rw [textN_bl] at hcv
      have HR2 := Lib.hid hr
      have HQ := Lib.hid hq
      clear hr hq
      go_wp2
      go_ret2
      have hq := HQ.out
      exact H.out.put H2.out HOk.out hq.os hq.tape hq.output hq.size (fun k hk ho => hq.block k hk (fun e => ho (e ▸ HR.out.og)) (fun e => ho (HR.out.oq k e))) (RowAt.cut HR.out hq HR2.out) _
    · have hl := R.all.length
      have hk : k < 0 ∨ (vs.length : Int) ≤ k := by
        rw [there_iff] at ht
        omega
      unfold NetS.look NetS.deliver
      rw [if_neg ht, if_neg ht, show S.there a b k = false from by simpa using ht]
      have HA := Lib.hid (cut_no_b R.ring k hk)
      clear h R h2 ht hl hk
      have hcv := nil_text (w := w)
      go_enter Try.func26, Try.ntmps26
      go_wp2_with fail
      refine HB.out.mono ?_
      rintro e w1 ⟨rfl, rfl⟩
      go_wp2_with fail
      refine HA.out.mono ?_
      rintro e w1 ⟨rfl, rfl⟩
      go_wp2
      go_ret2
      exact H.out.same (Ext.refl _) _
  · have h2 : S.two a b = false := by simpa using h2
    have HE := h.ok.none a b h2
    have HB := Lib.hid (between_no h a b h2)
    have ht : S.there a b k = false := by
      unfold NetS.there
      rw [HE]
      simp
    unfold NetS.look NetS.deliver
    rw [if_neg (by rw [ht]; simp), if_neg (by rw [ht]; simp), ht]
    clear h h2 HE ht
    go_enter Try.func26, Try.ntmps26
    go_wp2_with fail
    refine HB.out.mono ?_
    rintro e w1 ⟨rfl, hr, hx⟩
    have HX := Lib.hid hx
    clear hx
    go_wp2_with fail
    refine (cut_no_b hr k (by simp; omega)).mono ?_
    rintro e w2 ⟨rfl, rfl⟩
    clear hr
    have hcv := nil_text (w := w1)
    go_wp2
    go_ret2
    exact H.out.same HX.out _

theorem short_look {S : NetS} (ok : S.Ok) (a b k : Int) : (S.look a b k).size ≤ 1000 := by
  unfold NetS.look
  split
  · rename_i h
    obtain ⟨h0, h1⟩ := there_iff.1 h
    have hk : k.toNat < (S.f a b).length := by omega
    have : (S.f a b).getD k.toNat ⟨#[]⟩ ∈ S.f a b := by simp [hk]
    exact ok.short a b _ this
  · decide

theorem pDouble (h : NAt w p S F) (a b k : Int) :
    Calls Try.prog 28 #[.pointer (some ⟨p, 0, none⟩), .int .i64 a, .int .i64 b, .int .i64 k] w (Moves p (S.double a b k) F (.bool (S.canD a b k)) w) := by
  have HS := Lib.hid (short_look h.ok a b k)
  have HL := Lib.hid (pLook h a b k)
  unfold NetS.double NetS.canD
  by_cases ht : S.there a b k = true
  · rw [if_pos ht, ht, Bool.true_and]
    rw [ht] at HL
    clear h ht
    go_enter Try.func28, Try.ntmps28
    go_wp2_with fail
    refine HL.out.mono ?_
    rintro e w1 ⟨F1, rfl, n1, o1, g1⟩
    have HO1 := Lib.hid o1
    have HG1 := Lib.hid g1
    have HP := Lib.hid (pSend n1 a b (S.look a b k) HS.out)
    clear o1 g1 n1
    go_wp2_with fail
    refine HP.out.mono ?_
    rintro e w2 ⟨F2, rfl, n2, o2, g2⟩
    have HN2 := Lib.hid n2
    have HO2 := Lib.hid o2
    have HG2 := Lib.hid g2
    clear n2 o2 g2
    go_wp2
    go_ret
    exact ⟨F2, rfl, HN2.out, HO1.out.trans HO2.out HG1.out, HG1.out.trans HG2.out HO1.out.size⟩
  · rw [if_neg ht, show S.there a b k = false from by simpa using ht, Bool.false_and]
    rw [show S.there a b k = false from by simpa using ht] at HL
    clear h ht
    go_enter Try.func28, Try.ntmps28
    go_wp2_with fail
    refine HL.out.mono ?_
    rintro e w1 ⟨F1, rfl, n1, o1, g1⟩
    have HN1 := Lib.hid n1
    have HO1 := Lib.hid o1
    have HG1 := Lib.hid g1
    clear o1 g1 n1
    go_wp2
    go_ret
    exact ⟨F1, rfl, HN1.out, HO1.out, HG1.out⟩
end
end Go.Proofs.Ytjnnfnmapigagaa
