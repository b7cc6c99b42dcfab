/- cmd.Digest, the reference's CmdText, CmdDigest. -/
import Derived.Test.YtidjnnnigcmdpaaGreatDoorJbi
import Derived.Test.YtidjnnnigcmdpaaGreatDoorJag
import Derived.LoopN
import Derived.Test.YtidjnnnigcmdpaaGreatDoorJan
import Derived.Test.YtidjnnnigcmdpaaGreatDoorJbe
import Derived.Test.YtidjnnnigcmdpaaGreatDoorJav
set_option linter.unusedSimpArgs false
set_option linter.unusedVariables false
set_option linter.unnecessarySimpa false
namespace Go.Proofs.YtidjnnnigcmdpaaGreatDoor
open Go.RowKit
end Go.Proofs.YtidjnnnigcmdpaaGreatDoor
