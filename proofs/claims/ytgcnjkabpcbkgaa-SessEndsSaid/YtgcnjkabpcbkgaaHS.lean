/- Layer 17, the program: all of its functions' contracts. -/
import Derived.Test.YtgcnjkabpcbkgaaHO
import Derived.Test.YtgcnjkabpcbkgaaHPT
import Derived.Test.YtgcnjkabpcbkgaaHPG
namespace Go.Proofs.Ytgcnjkabpcbkgaa
end Go.Proofs.Ytgcnjkabpcbkgaa
