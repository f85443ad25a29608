/- What a row's frame hands over of numbers. -/
import Derived.Test.YtpnnnbjjoimalaaRowG
import Derived.Test.YtpnnnbjjoimalaaElem3
import Derived.WalkKit
import Derived.ProofKit
import Derived.OpenShut
namespace Go.Proofs.Ytpnnnbjjoimalaa
open Go.RowKit Go.ChangeShapes Go.WideShapes Go.Deep

theorem dec_Int : Dec Int := fun _ _ _ _ _ _ _ _ _ h => by
  obtain ⟨n, rfl, _⟩ := DataW.trod_int (k := .i64) (by kernel_rfl) h
  exact ⟨n, rfl⟩

end Go.Proofs.Ytpnnnbjjoimalaa
