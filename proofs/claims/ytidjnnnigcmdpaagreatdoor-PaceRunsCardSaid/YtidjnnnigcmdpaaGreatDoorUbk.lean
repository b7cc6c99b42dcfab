/- cmd.Digest, the reference's CmdText, CmdDigest. -/
import Derived.Test.YtidjnnnigcmdpaaGreatDoorUbi
import Derived.Test.YtidjnnnigcmdpaaGreatDoorUag
import Derived.LoopN
import Derived.Test.YtidjnnnigcmdpaaGreatDoorUan
import Derived.Test.YtidjnnnigcmdpaaGreatDoorUbe
import Derived.Test.YtidjnnnigcmdpaaGreatDoorUav
set_option linter.unusedSimpArgs false
set_option linter.unusedVariables false
set_option linter.unnecessarySimpa false
namespace Go.Proofs.YtidjnnnigcmdpaaGreatDoor
open Go.RowKit
end Go.Proofs.YtidjnnnigcmdpaaGreatDoor
