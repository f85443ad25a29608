/-
  No cell of these rows narrows 'for every input' (looked for: loops, veiled, ifaces, maps, wideKeys, modest, calm, conditions, laid).
  DERIVED. THE GIVEN ROWS OF THIS SEAT. 6 by the template 'for every input the law returns true; each argument reads behind the call as it read before'; 0 by the template 'total and deterministic' (their statements: YtdfleocknaackaaGreatTotals.lean).
  GIVEN WITH THE SEED: the statements are not yours to turn. If you find one false, say at which input.
  Laid BY PROGRAM, IN A SANDBOX (cutbox-rows.mjs): the forced cells as the released guide's own fill.sh prints them over the translation dac2f7f41574ad52… (all of the seat's roots in one cut). By AI agents, Wed Nov 11 2026. No macro, syntax, notation, axiom, sorry.
-/
import Derived.Test.YtdfleocknaackaaGreatChecked
import GoSem.Claim
import GoSem.ClaimJoined
import GoSem.ClaimMapViews
import Derived.JoinedTies
import Derived.KernelRfl
namespace Go.Proofs.YtdfleocknaackaaGreat
/- THE CELL 'sum', in the pinned program and in every row, IS THE sha256 OF THE DUMP (.gsa) THAT YtdfleocknaackaaGreatProg.lean LOADS. Nothing in Lean hashes anything: it is a label: what it is worth is what the hold of that sum in a sandbox is worth. -/
noncomputable def Tryz.pinned : Pinned := { name := "ytdfleocknaackaagreat", sum := "dac2f7f41574ad52db7351d34e731b48c72bbf1b8723c45de467cd2299e06c64", checked := Tryz.checked }
namespace Rows
def none {H : Type} : Left H := { results := [], args := [] }

/-- 'narthexlaw14.TableOne': WHATEVER THE INPUT: true; the input reads as it did. -/
def tableOneSpec : ChangeSpec := { name := "tableOne", fn := fun _ => fun
  | [d1, d2] => { results := [.lit (.bool true)], args := [d1, d2] }
  | _ => none }
def tableOneRow : OpenClaim := { program := "ytdfleocknaackaagreat", sum := "dac2f7f41574ad52db7351d34e731b48c72bbf1b8723c45de467cd2299e06c64", func := "narthex/narthexlaw14.TableOne", spec := "tableOne", unfollowed := true, recurses := true, apart := false }
def TableOneSaid : Prop := tableOneRow.holds Tryz.pinned (OpenSpec.ofChange tableOneSpec)

/-- ITS FALSE NEIGHBOUR: 'it returns false'. Refute it at one input. -/
def tableOneWrong : ChangeSpec := { name := "tableOne", fn := fun _ => fun
  | [d1, d2] => { results := [.lit (.bool false)], args := [d1, d2] }
  | _ => none }
def TableOneWrongFalsely : Prop := tableOneRow.holds Tryz.pinned (OpenSpec.ofChange tableOneWrong)

/-- 'narthexlaw14.TableApart': WHATEVER THE INPUT: true; the input reads as it did. -/
def tableApartSpec : ChangeSpec := { name := "tableApart", fn := fun _ => fun
  | [d1, d2] => { results := [.lit (.bool true)], args := [d1, d2] }
  | _ => none }
def tableApartRow : OpenClaim := { program := "ytdfleocknaackaagreat", sum := "dac2f7f41574ad52db7351d34e731b48c72bbf1b8723c45de467cd2299e06c64", func := "narthex/narthexlaw14.TableApart", spec := "tableApart", unfollowed := true, recurses := true, apart := false }
def TableApartSaid : Prop := tableApartRow.holds Tryz.pinned (OpenSpec.ofChange tableApartSpec)

/-- ITS FALSE NEIGHBOUR: 'it returns false'. Refute it at one input. -/
def tableApartWrong : ChangeSpec := { name := "tableApart", fn := fun _ => fun
  | [d1, d2] => { results := [.lit (.bool false)], args := [d1, d2] }
  | _ => none }
def TableApartWrongFalsely : Prop := tableApartRow.holds Tryz.pinned (OpenSpec.ofChange tableApartWrong)

/-- 'narthexlaw14.TableRound': WHATEVER THE INPUT: true; the input reads as it did. -/
def tableRoundSpec : ChangeSpec := { name := "tableRound", fn := fun _ => fun
  | [d1, d2] => { results := [.lit (.bool true)], args := [d1, d2] }
  | _ => none }
def tableRoundRow : OpenClaim := { program := "ytdfleocknaackaagreat", sum := "dac2f7f41574ad52db7351d34e731b48c72bbf1b8723c45de467cd2299e06c64", func := "narthex/narthexlaw14.TableRound", spec := "tableRound", unfollowed := true, recurses := true, apart := false }
def TableRoundSaid : Prop := tableRoundRow.holds Tryz.pinned (OpenSpec.ofChange tableRoundSpec)

/-- ITS FALSE NEIGHBOUR: 'it returns false'. Refute it at one input. -/
def tableRoundWrong : ChangeSpec := { name := "tableRound", fn := fun _ => fun
  | [d1, d2] => { results := [.lit (.bool false)], args := [d1, d2] }
  | _ => none }
def TableRoundWrongFalsely : Prop := tableRoundRow.holds Tryz.pinned (OpenSpec.ofChange tableRoundWrong)

/-- 'narthexlaw14.TableFair': WHATEVER THE INPUT: true; the input reads as it did. -/
def tableFairSpec : ChangeSpec := { name := "tableFair", fn := fun _ => fun
  | [d1, d2] => { results := [.lit (.bool true)], args := [d1, d2] }
  | _ => none }
def tableFairRow : OpenClaim := { program := "ytdfleocknaackaagreat", sum := "dac2f7f41574ad52db7351d34e731b48c72bbf1b8723c45de467cd2299e06c64", func := "narthex/narthexlaw14.TableFair", spec := "tableFair", unfollowed := true, recurses := true, apart := false }
def TableFairSaid : Prop := tableFairRow.holds Tryz.pinned (OpenSpec.ofChange tableFairSpec)

/-- ITS FALSE NEIGHBOUR: 'it returns false'. Refute it at one input. -/
def tableFairWrong : ChangeSpec := { name := "tableFair", fn := fun _ => fun
  | [d1, d2] => { results := [.lit (.bool false)], args := [d1, d2] }
  | _ => none }
def TableFairWrongFalsely : Prop := tableFairRow.holds Tryz.pinned (OpenSpec.ofChange tableFairWrong)

/-- 'narthexlaw14.TableNew': WHATEVER THE INPUT: true; the input reads as it did. -/
def tableNewSpec : ChangeSpec := { name := "tableNew", fn := fun _ => fun
  | [d] => { results := [.lit (.bool true)], args := [d] }
  | _ => none }
def tableNewRow : OpenClaim := { program := "ytdfleocknaackaagreat", sum := "dac2f7f41574ad52db7351d34e731b48c72bbf1b8723c45de467cd2299e06c64", func := "narthex/narthexlaw14.TableNew", spec := "tableNew", unfollowed := true, recurses := true, apart := false }
def TableNewSaid : Prop := tableNewRow.holds Tryz.pinned (OpenSpec.ofChange tableNewSpec)

/-- ITS FALSE NEIGHBOUR: 'it returns false'. Refute it at one input. -/
def tableNewWrong : ChangeSpec := { name := "tableNew", fn := fun _ => fun
  | [d] => { results := [.lit (.bool false)], args := [d] }
  | _ => none }
def TableNewWrongFalsely : Prop := tableNewRow.holds Tryz.pinned (OpenSpec.ofChange tableNewWrong)

/-- 'narthexlaw14.TableOthers': WHATEVER THE INPUT: true; the input reads as it did. -/
def tableOthersSpec : ChangeSpec := { name := "tableOthers", fn := fun _ => fun
  | [d1, d2] => { results := [.lit (.bool true)], args := [d1, d2] }
  | _ => none }
def tableOthersRow : OpenClaim := { program := "ytdfleocknaackaagreat", sum := "dac2f7f41574ad52db7351d34e731b48c72bbf1b8723c45de467cd2299e06c64", func := "narthex/narthexlaw14.TableOthers", spec := "tableOthers", unfollowed := true, recurses := true, apart := false }
def TableOthersSaid : Prop := tableOthersRow.holds Tryz.pinned (OpenSpec.ofChange tableOthersSpec)

/-- ITS FALSE NEIGHBOUR: 'it returns false'. Refute it at one input. -/
def tableOthersWrong : ChangeSpec := { name := "tableOthers", fn := fun _ => fun
  | [d1, d2] => { results := [.lit (.bool false)], args := [d1, d2] }
  | _ => none }
def TableOthersWrongFalsely : Prop := tableOthersRow.holds Tryz.pinned (OpenSpec.ofChange tableOthersWrong)

/- THE SECOND FORM. 'bulk': how many values and letters a reading holds, each counted each time it is reached (what is shared counts as often as it is met; a slice's spare places count too). A statement '..UptoSaid' is the law's where the arguments, and the package variables that the reading takes, are together of bulk at most 1048576: NARROWER than '..Said'. Prove '..Said' where nothing that the law and all that it calls make is longer than what came in: it says more and counts as full. Else prove '..UptoSaid'. A law counts once. -/
mutual
def uptoBulk {H : Type} : DataW H → Nat
  | .lit (.string bytes) => bytes.length + 1
  | .lit _ => 1
  | .nil => 1
  | .ptr d => uptoBulk d + 1
  | .slice elems spare => uptoBulkAll elems + uptoBulkAll spare + 1
  | .agg parts => uptoBulkAll parts + 1
  | .iface _ d => uptoBulk d + 1
  | .map entries => uptoBulkEntries entries + 1
  | .held _ => 1
def uptoBulkAll {H : Type} : List (DataW H) → Nat
  | [] => 0
  | d :: r => uptoBulk d + uptoBulkAll r
def uptoBulkEntries {H : Type} : List (Lit × DataW H) → Nat
  | [] => 0
  | x :: r => uptoBulkEntry x + uptoBulkEntries r
def uptoBulkEntry {H : Type} : Lit × DataW H → Nat
  | (.string bytes, d) => bytes.length + uptoBulk d + 1
  | (_, d) => uptoBulk d + 1
 end
def uptoSmall : (H : Type) → List (DataW H) → Bool := fun _ ds => decide (uptoBulkAll ds ≤ 1048576)
def OpenSpec.upto (s : _root_.Go.ChangeSpec) : _root_.Go.OpenSpec := { _root_.Go.OpenSpec.ofChange s with cond := some uptoSmall }

/-- 'narthexlaw14.TableOne', WHERE WHAT IT READS IS OF BULK AT MOST 1048576: true; the input reads as it did. -/
def tableOneUptoRow : OpenClaim := { program := "ytdfleocknaackaagreat", sum := "dac2f7f41574ad52db7351d34e731b48c72bbf1b8723c45de467cd2299e06c64", func := "narthex/narthexlaw14.TableOne", spec := "tableOne", unfollowed := true, recurses := true, apart := false, narrowed := true }
def TableOneUptoSaid : Prop := tableOneUptoRow.holds Tryz.pinned (OpenSpec.upto tableOneSpec)

/-- 'narthexlaw14.TableApart', WHERE WHAT IT READS IS OF BULK AT MOST 1048576: true; the input reads as it did. -/
def tableApartUptoRow : OpenClaim := { program := "ytdfleocknaackaagreat", sum := "dac2f7f41574ad52db7351d34e731b48c72bbf1b8723c45de467cd2299e06c64", func := "narthex/narthexlaw14.TableApart", spec := "tableApart", unfollowed := true, recurses := true, apart := false, narrowed := true }
def TableApartUptoSaid : Prop := tableApartUptoRow.holds Tryz.pinned (OpenSpec.upto tableApartSpec)

/-- 'narthexlaw14.TableRound', WHERE WHAT IT READS IS OF BULK AT MOST 1048576: true; the input reads as it did. -/
def tableRoundUptoRow : OpenClaim := { program := "ytdfleocknaackaagreat", sum := "dac2f7f41574ad52db7351d34e731b48c72bbf1b8723c45de467cd2299e06c64", func := "narthex/narthexlaw14.TableRound", spec := "tableRound", unfollowed := true, recurses := true, apart := false, narrowed := true }
def TableRoundUptoSaid : Prop := tableRoundUptoRow.holds Tryz.pinned (OpenSpec.upto tableRoundSpec)

/-- 'narthexlaw14.TableFair', WHERE WHAT IT READS IS OF BULK AT MOST 1048576: true; the input reads as it did. -/
def tableFairUptoRow : OpenClaim := { program := "ytdfleocknaackaagreat", sum := "dac2f7f41574ad52db7351d34e731b48c72bbf1b8723c45de467cd2299e06c64", func := "narthex/narthexlaw14.TableFair", spec := "tableFair", unfollowed := true, recurses := true, apart := false, narrowed := true }
def TableFairUptoSaid : Prop := tableFairUptoRow.holds Tryz.pinned (OpenSpec.upto tableFairSpec)

/-- 'narthexlaw14.TableNew', WHERE WHAT IT READS IS OF BULK AT MOST 1048576: true; the input reads as it did. -/
def tableNewUptoRow : OpenClaim := { program := "ytdfleocknaackaagreat", sum := "dac2f7f41574ad52db7351d34e731b48c72bbf1b8723c45de467cd2299e06c64", func := "narthex/narthexlaw14.TableNew", spec := "tableNew", unfollowed := true, recurses := true, apart := false, narrowed := true }
def TableNewUptoSaid : Prop := tableNewUptoRow.holds Tryz.pinned (OpenSpec.upto tableNewSpec)

/-- 'narthexlaw14.TableOthers', WHERE WHAT IT READS IS OF BULK AT MOST 1048576: true; the input reads as it did. -/
def tableOthersUptoRow : OpenClaim := { program := "ytdfleocknaackaagreat", sum := "dac2f7f41574ad52db7351d34e731b48c72bbf1b8723c45de467cd2299e06c64", func := "narthex/narthexlaw14.TableOthers", spec := "tableOthers", unfollowed := true, recurses := true, apart := false, narrowed := true }
def TableOthersUptoSaid : Prop := tableOthersUptoRow.holds Tryz.pinned (OpenSpec.upto tableOthersSpec)

end Rows
end Go.Proofs.YtdfleocknaackaaGreat
