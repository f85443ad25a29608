/- Edges: their order, what is told of them, whether a graph may be. -/
import Derived.Test.YtgcnjkabpcbkgaaElem3
import Derived.Deep.RegionLaw
import Derived.Deep.RegionWith
import Derived.Deep.RegionHeld3
import Derived.IntWalk
namespace Go.Proofs.Ytgcnjkabpcbkgaa
open Go.RowKit

end Go.Proofs.Ytgcnjkabpcbkgaa
