/- Frames: when two are the same. -/
import Derived.Test.YtlakolkpfkakoaaGreatDoorMA
import Derived.Laws.StructEq
namespace Go.Proofs.YtlakolkpfkakoaaGreatDoor
open Go.RowKit

end Go.Proofs.YtlakolkpfkakoaaGreatDoor
