/- What a row's frame hands over of numbers. -/
import Derived.Test.YtalncechmhmdcaaRowG
import Derived.Test.YtalncechmhmdcaaElem3
import Derived.WalkKit
import Derived.ProofKit
import Derived.OpenShut
namespace Go.Proofs.Ytalncechmhmdcaa
open Go.RowKit Go.ChangeShapes Go.WideShapes Go.Deep

theorem dec_Int : Dec Int := fun _ _ _ _ _ _ _ _ _ h => by
  obtain ⟨n, rfl, _⟩ := DataW.trod_int (k := .i64) (by kernel_rfl) h
  exact ⟨n, rfl⟩

end Go.Proofs.Ytalncechmhmdcaa
