/- cmd.Digest, the reference's CmdText, CmdDigest. -/
import Derived.Test.YtkpnheenacchhaaGreatDoorJbi
import Derived.Test.YtkpnheenacchhaaGreatDoorJbm
import Derived.Test.YtkpnheenacchhaaGreatDoorJag
import Derived.LoopN
import Derived.Test.YtkpnheenacchhaaGreatDoorJan
set_option linter.unusedSimpArgs false
set_option linter.unusedVariables false
namespace Go.Proofs.YtkpnheenacchhaaGreatDoor
open Go.RowKit
theorem qD {c:Cm} (hc:c.in):(txC c).length≤105:=xz c.l hc
end Go.Proofs.YtkpnheenacchhaaGreatDoor
