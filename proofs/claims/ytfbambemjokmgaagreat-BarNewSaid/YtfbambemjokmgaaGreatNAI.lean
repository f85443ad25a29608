/- Texts of this seat. -/
import Derived.Lib.SlicesCompact
import Derived.Sort.OwnSortedInts
import Derived.Test.YtfbambemjokmgaaGreatNAB
namespace Go.Proofs.YtfbambemjokmgaaGreat
open Go.RowKit
theorem Sl.none (w : World) : Sl w (.slice none 0 0) ([] : List Int) := Sl.empty _ _ _ (by omega) (fun _ => rfl)
end Go.Proofs.YtfbambemjokmgaaGreat
