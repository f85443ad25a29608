/- Layer 12: the program's contracts, all together. -/
import Derived.Test.YtpnnnbjjoimalaaPPs
import Derived.Test.YtpnnnbjjoimalaaPPa
import Derived.Test.YtpnnnbjjoimalaaPPr
import Derived.Test.YtpnnnbjjoimalaaPPg
import Derived.Test.YtpnnnbjjoimalaaPPt
import Derived.Test.YtpnnnbjjoimalaaPPm
import Derived.Test.YtpnnnbjjoimalaaPP0
import Derived.Test.YtpnnnbjjoimalaaMG7
namespace Go.Proofs.Ytpnnnbjjoimalaa
end Go.Proofs.Ytpnnnbjjoimalaa
