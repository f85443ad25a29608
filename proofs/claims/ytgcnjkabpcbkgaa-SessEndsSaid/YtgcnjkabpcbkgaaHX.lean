/- Layer 17 (mathematics): the chapter's example, as lists. -/
import Derived.Test.YtgcnjkabpcbkgaaHN
namespace Go.Proofs.Ytgcnjkabpcbkgaa

def bk1 : Bk := (3, [⟨3, [1], 0, 0⟩])
def bk2 : Bk := (5, [⟨3, [1], 0, 0⟩, ⟨5, [1, 2], 0, 0⟩])
def bkC : Bk := (5, [⟨3, [1], 1, 0⟩, ⟨5, [1, 2], 0, 0⟩])
def bkD : Bk := (5, [⟨5, [1, 2], 0, 0⟩])
def bkE : Bk := (5, [⟨5, [1, 2], 1, 0⟩])
def bkY : Bk := (5, [⟨3, [1], 1, 0⟩])
theorem norm_one : norm [1] = [1] := norm_of_SS (by unfold SS; decide)
theorem norm_212 : norm [2, 1, 2] = [1, 2] := norm_eq (by unfold SS; decide) fun x => by simp only [List.mem_cons, List.not_mem_nil, or_false]; omega
theorem chk_no : chkH noH = true := okH_iff.2 OkH.no
theorem chk_1 : chkH bk1 = true := by unfold chkH bk1 seH needH waitH SS; decide
theorem chk_2 : chkH bk2 = true := by unfold chkH bk2 seH needH waitH SS; decide
theorem chk_C : chkH bkC = true := by unfold chkH bkC seH needH waitH SS; decide
theorem chk_D : chkH bkD = true := by unfold chkH bkD seH needH waitH SS; decide
theorem ex_open1 : openH noH 3 [1] = (bk1, 0) := by
  unfold openH
  rw [if_pos chk_no, if_neg (by decide), norm_one, if_pos (by unfold needH SS; decide), if_neg (by decide)]
  rfl
theorem ex_open2 : openH bk1 5 [2, 1, 2] = (bk2, 0) := by
  unfold openH
  rw [if_pos chk_1, if_neg (by decide), norm_212, if_pos (by unfold needH SS; decide), if_neg (by decide)]
  rfl
theorem ex_grant : grantH bk2 = (bkC, 3, 0) := by unfold grantH; rw [if_pos chk_2]; rfl
theorem ex_poll : pollH bkC 3 = (1, 0) := by unfold pollH; rw [if_pos chk_C]; rfl
theorem ex_release : endH bkC 3 1 = (bkD, 0) := by unfold endH; rw [if_pos chk_C]; rfl
theorem ex_grant2 : grantH bkD = (bkE, 5, 0) := by unfold grantH; rw [if_pos chk_D]; rfl
theorem ex_tick : tickH bkC 1 = (bkD, 3, 0) := by unfold tickH; rw [if_pos chk_C]; rfl
theorem ex_gone : goneH bkC 2 = (bkY, [5], 0) := by unfold goneH; rw [if_pos chk_C]; decide
theorem ex_cancel : endH bkC 3 0 = (noH, 175) := by unfold endH; rw [if_pos chk_C]; rfl
end Go.Proofs.Ytgcnjkabpcbkgaa
