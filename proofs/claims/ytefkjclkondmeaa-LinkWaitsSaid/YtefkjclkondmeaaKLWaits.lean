/- LinkWaits: what is sent waits, till as many do as may; what is too long doesn't. -/
import Derived.Test.YtefkjclkondmeaaKA
namespace Go.Proofs.Ytefkjclkondmeaa
open Go.RowKit

/-- only sent to, so often -/
def Fresh (S : EndS) (first : Nat) (win qn wait : Int) (e : Int) (n : Nat) : Prop :=
  S.first = first ∧ S.want = first ∧ S.l.length = n ∧ S.out = 0 ∧ S.owes = false ∧ S.qn = (EndS.new e first win qn wait).qn ∧ S.win = (EndS.new e first win qn wait).win
theorem Fresh.send {S : EndS} {first n : Nat} {win qn wait e : Int} {b : ByteArray} (h : Fresh S first win qn wait e n) : Fresh (S.send b) first win qn wait e (if S.sendE b = 0 then n + 1 else n) := by
  obtain ⟨h1, h2, h3, h4, h5, h6, h7⟩ := h
  unfold EndS.send
  split
  · exact ⟨h1, h2, by simp [h3], h4, h5, h6, h7⟩
  · exact ⟨h1, h2, h3, h4, h5, h6, h7⟩
theorem Fresh.frames {S : EndS} {first n : Nat} {win qn wait e : Int} (h : Fresh S first win qn wait e n) : S.frames.length = min (EndS.new e first win qn wait).win n := by
  obtain ⟨h1, h2, h3, h4, h5, h6, h7⟩ := h
  unfold EndS.frames EndS.top
  rw [h3, h4, h7]
  split
  · next h0 =>
    rw [h5]
    simp
    omega
  · rw [EndS.datas_length]
    omega

set_option maxRecDepth 100000 in
set_option maxHeartbeats 4000000 in
theorem waits_any (w : World) (hs : Std w) (v : Value) (l : List ByteArray) (h : Sl w v l) (e : Int) (first : Nat) (hf : first < 18446744073709551616) (win qn wait : Int) :
    Calls Try.prog 8 #[.int .i64 e, .int .u64 (first : Int), .int .i64 win, .int .i64 qn, .int .i64 wait, v] w (GivesB w (.bool true)) := by
  have hlen := h.length_le
  have HS := Lib.hid h
  have HST := Lib.hid hs
  obtain ⟨ao, c, rfl⟩ := h.len
  clear h hs
  go_enter Try.func8, Try.ntmps8
  go_wp2_with fail
  refine (pNew w e first win qn wait hf).mono ?_
  rintro ev w0 ⟨p, F0, rfl, n0, hf0, x0⟩
  have N0 : Hid (End1 w w0 p (EndS.new e first win qn wait) F0) := Lib.hid ⟨n0, hf0, x0⟩
  clear n0 hf0 x0
  go_wp2_with fail
  refine (awake_any w0 (HST.out.ext N0.out.2.2)).mono ?_
  rintro ev w1 ⟨rfl, x1⟩
  have N1 := Lib.hid (N0.out.ext x1)
  clear x1 N0
  by_cases h80 : l.length ≤ 80
  · have hz : ¬ (80 : Int) < (l.length : Int) := by omega
    obtain ⟨A, hA⟩ : ∃ A : Int, A = max qn 0 := ⟨_, rfl⟩
    obtain ⟨Q, hQ⟩ : ∃ Q : Nat, (Q : Int) = min A 64 := ⟨(min A 64).toNat, by omega⟩
    have hq1 : (if qn < 0 then (0 : Int) else qn) = A := by split <;> omega
    have hq2 : (if (64 : Int) < A then (64 : Int) else A) = (Q : Int) := by split <;> omega
    obtain ⟨B, hB⟩ : ∃ B : Int, B = max win 1 := ⟨_, rfl⟩
    obtain ⟨V, hV⟩ : ∃ V : Nat, (V : Int) = min B 8 := ⟨(min B 8).toNat, by omega⟩
    have hw1 : (if win < 1 then (1 : Int) else win) = B := by split <;> omega
    have hw2 : (if (8 : Int) < B then (8 : Int) else B) = (V : Int) := by split <;> omega
    have HQ := Lib.hid (show (EndS.new e first win qn wait).qn = Q by simp only [EndS.new]; omega)
    have HV := Lib.hid (show (EndS.new e first win qn wait).win = V by simp only [EndS.new]; omega)
    have F1 : Hid (Fresh (EndS.new e first win qn wait) first win qn wait e 0) := Lib.hid ⟨rfl, rfl, rfl, rfl, rfl, rfl, rfl⟩
    clear hA hQ hB hV
    go_wp2
    go_loopw [14, 16] (fun m i wr => ∃ (k n : Nat) (S : EndS) (F : Nat → Prop), k ≤ l.length ∧ n ≤ k ∧ i = .int .i64 (k : Int) ∧ m = .int .i64 (n : Int) ∧ Hid (End1 w wr p S F) ∧ Hid (Fresh S first win qn wait e n)) (fun _ i _ => l.length - (intOf i).toNat)
    case atStart => exact ⟨0, 0, _, _, Nat.zero_le _, Nat.le_refl _, rfl, rfl, N1, F1⟩
    case round =>
      obtain ⟨k, n, S, F, hk, hnk, rfl, rfl, HN, HF⟩ := hrel
      by_cases hlt : k < l.length
      · rcases (HS.out.ext HN.out.2.2).texts with ⟨h0, _⟩ | ⟨b, off, c', hv, hq3, hq4, hbl, hpos, hat⟩
        · rw [h0] at hlt; simp at hlt
        simp only [Value.slice.injEq] at hv
        obtain ⟨rfl, _, rfl⟩ := hv
        have k0 := hat k hlt
        obtain ⟨Y, hY⟩ : ∃ Y, Y = l.getD k ⟨#[]⟩ := ⟨_, rfl⟩
        rw [← hY] at k0
        have hkc : (k : Int) ≤ (c : Int) := by omega
        clear hY hat
        by_cases h200 : Y.size ≤ 200
        · have t1 : ¬ (200 : Int) < (Y.size : Int) := by omega
          have cS := pSend HN.out.1 Y (by omega)
          have hfr := HF.out.send (b := Y)
          obtain ⟨E, hE⟩ : ∃ E, E = S.sendE Y := ⟨_, rfl⟩
          have hcase : ((64 : Int) < (Y.size : Int) ∧ E = 90) ∨ (¬ (64 : Int) < (Y.size : Int) ∧ (Q : Int) ≤ (n : Int) ∧ E = 91) ∨ (¬ (64 : Int) < (Y.size : Int) ∧ ¬ (Q : Int) ≤ (n : Int) ∧ E = 0) := by
            have h6 := HF.out.2.2.2.2.2.1
            have h3 := HF.out.2.2.1
            rw [HQ.out] at h6
            unfold EndS.sendE at hE
            rw [h6, h3] at hE
            by_cases h64 : 64 < Y.size
            · rw [if_pos h64] at hE
              exact .inl ⟨by omega, hE⟩
            · rw [if_neg h64] at hE
              by_cases hqq : Q ≤ n
              · rw [if_pos hqq] at hE
                exact .inr (.inl ⟨by omega, by omega, hE⟩)
              · rw [if_neg hqq] at hE
                exact .inr (.inr ⟨by omega, by omega, hE⟩)
          rw [← hE] at cS hfr
          have CS := Lib.hid cS
          have hn1 : IntKind.i64.wrap ((n : Int) + 1) = (n : Int) + 1 := wrapN _ (by omega) (by omega)
          have hn2 : IntKind.i64.wrap ((k : Int) + 1) = (k : Int) + 1 := wrapN _ (by omega) (by omega)
          clear hE cS
          rcases hcase with ⟨t2, rfl⟩ | ⟨t2, t3, rfl⟩ | ⟨t2, t3, rfl⟩
          · rw [if_neg (by decide)] at hfr
            have e1 := hfr.1
            have e2 := hfr.2.1
            have e3 := hfr.2.2.1
            have HF2 := Lib.hid hfr
            have CN : Hid (∀ W G, EAt W p (S.send Y) G → Calls Try.prog 22 #[.pointer (some ⟨p, 0, none⟩)] W (MovesE p (S.send Y) G (.tuple #[.int .u64 (first : Int), .int .u64 (first : Int)]) W)) := Lib.hid (fun W G h => by have := pNumbers h; rwa [e1, e2] at this)
            have CW : Hid (∀ W G, EAt W p (S.send Y) G → Calls Try.prog 23 #[.pointer (some ⟨p, 0, none⟩)] W (MovesE p (S.send Y) G (.int .i64 (n : Int)) W)) := Lib.hid (fun W G h => by have := pWaiting h; rwa [e3] at this)
            clear e1 e2 e3 hfr
            go_wp2_with (first
              | (go_at_call 13; refine CS.out.mono ?_; rintro ev w2 ⟨G2, rfl, n', o', g'⟩; have N2 := Lib.hid (HN.out.step n' o' g'); clear n' o' g')
              | (go_at_call 22; refine (CN.out _ _ N2.out.1).mono ?_; rintro ev w3 ⟨G3, rfl, n', o', g'⟩; have N3 := Lib.hid (N2.out.step n' o' g'); clear n' o' g')
              | (go_at_call 23; refine (CW.out _ _ N3.out.1).mono ?_; rintro ev w4 ⟨G4, rfl, n', o', g'⟩; have N4 := Lib.hid (N3.out.step n' o' g'); clear n' o' g'))
            exact ⟨⟨k + 1, n, _, _, hlt, by omega, by go_num, rfl, N4, HF2⟩, by simp [intOf]; omega⟩
          · rw [if_neg (by decide)] at hfr
            have e1 := hfr.1
            have e2 := hfr.2.1
            have e3 := hfr.2.2.1
            have HF2 := Lib.hid hfr
            have CN : Hid (∀ W G, EAt W p (S.send Y) G → Calls Try.prog 22 #[.pointer (some ⟨p, 0, none⟩)] W (MovesE p (S.send Y) G (.tuple #[.int .u64 (first : Int), .int .u64 (first : Int)]) W)) := Lib.hid (fun W G h => by have := pNumbers h; rwa [e1, e2] at this)
            have CW : Hid (∀ W G, EAt W p (S.send Y) G → Calls Try.prog 23 #[.pointer (some ⟨p, 0, none⟩)] W (MovesE p (S.send Y) G (.int .i64 (n : Int)) W)) := Lib.hid (fun W G h => by have := pWaiting h; rwa [e3] at this)
            clear e1 e2 e3 hfr
            go_wp2_with (first
              | (go_at_call 13; refine CS.out.mono ?_; rintro ev w2 ⟨G2, rfl, n', o', g'⟩; have N2 := Lib.hid (HN.out.step n' o' g'); clear n' o' g')
              | (go_at_call 22; refine (CN.out _ _ N2.out.1).mono ?_; rintro ev w3 ⟨G3, rfl, n', o', g'⟩; have N3 := Lib.hid (N2.out.step n' o' g'); clear n' o' g')
              | (go_at_call 23; refine (CW.out _ _ N3.out.1).mono ?_; rintro ev w4 ⟨G4, rfl, n', o', g'⟩; have N4 := Lib.hid (N3.out.step n' o' g'); clear n' o' g'))
            exact ⟨⟨k + 1, n, _, _, hlt, by omega, by go_num, rfl, N4, HF2⟩, by simp [intOf]; omega⟩
          · rw [if_pos rfl] at hfr
            have e1 := hfr.1
            have e2 := hfr.2.1
            have e3 := hfr.2.2.1
            have HF2 := Lib.hid hfr
            have CN : Hid (∀ W G, EAt W p (S.send Y) G → Calls Try.prog 22 #[.pointer (some ⟨p, 0, none⟩)] W (MovesE p (S.send Y) G (.tuple #[.int .u64 (first : Int), .int .u64 (first : Int)]) W)) := Lib.hid (fun W G h => by have := pNumbers h; rwa [e1, e2] at this)
            have CW : Hid (∀ W G, EAt W p (S.send Y) G → Calls Try.prog 23 #[.pointer (some ⟨p, 0, none⟩)] W (MovesE p (S.send Y) G (.int .i64 ((n + 1 : Nat) : Int)) W)) := Lib.hid (fun W G h => by have := pWaiting h; rwa [e3] at this)
            clear e1 e2 e3 hfr
            go_wp2_with (first
              | (go_at_call 13; refine CS.out.mono ?_; rintro ev w2 ⟨G2, rfl, n', o', g'⟩; have N2 := Lib.hid (HN.out.step n' o' g'); clear n' o' g')
              | (go_at_call 22; refine (CN.out _ _ N2.out.1).mono ?_; rintro ev w3 ⟨G3, rfl, n', o', g'⟩; have N3 := Lib.hid (N2.out.step n' o' g'); clear n' o' g')
              | (go_at_call 23; refine (CW.out _ _ N3.out.1).mono ?_; rintro ev w4 ⟨G4, rfl, n', o', g'⟩; have N4 := Lib.hid (N3.out.step n' o' g'); clear n' o' g'))
            exact ⟨⟨k + 1, n + 1, _, _, hlt, by omega, by go_num, by go_num, N4, HF2⟩, by simp [intOf]; omega⟩
        · have t1 : (200 : Int) < (Y.size : Int) := by omega
          go_wp2
          go_ret
          exact ⟨rfl, HN.out.2.2⟩
      · go_wp2_with fail
        refine (pOut HN.out.1).mono ?_
        rintro ev w2 ⟨oo, on, oc, G2, rfl, hl, hb, n', o', g'⟩
        have N2 := Lib.hid (HN.out.step n' o' g')
        obtain ⟨oo', oc', hv⟩ := hl.len
        simp only [Value.slice.injEq] at hv
        obtain ⟨rfl, rfl, rfl⟩ := hv
        have hfl := HF.out.frames
        rw [HV.out] at hfl
        obtain ⟨D, hD⟩ : ∃ D, D = S.frames.length := ⟨_, rfl⟩
        rw [← hD] at hfl ⊢
        clear hl hb n' o' g' hD
        go_wp2
        all_goals go_ret
        all_goals refine ⟨ret_bool ?_, N2.out.2.2⟩
        all_goals (rw [beq_iff_eq]; omega)
  · have hz : (80 : Int) < (l.length : Int) := by omega
    go_wp2_with (first
      | (go_at_call 10; refine (awake_any w1 (HST.out.ext N1.out.2.2)).mono ?_; rintro ev w2 ⟨rfl, x2⟩; have X2 := Lib.hid (Ext.trans N1.out.2.2 x2); clear x2))
    go_ret
    exact ⟨rfl, X2.out⟩
end Go.Proofs.Ytefkjclkondmeaa
