/- cmd.Digest, the reference's CmdText, CmdDigest. -/
import Derived.Test.YtidjnnnigcmdpaaGreatDoorYbi
import Derived.Test.YtidjnnnigcmdpaaGreatDoorYah
import Derived.LoopN
import Derived.Test.YtidjnnnigcmdpaaGreatDoorYao
import Derived.Test.YtidjnnnigcmdpaaGreatDoorYbe
import Derived.Test.YtidjnnnigcmdpaaGreatDoorYav
set_option linter.unusedSimpArgs false
set_option linter.unusedVariables false
set_option linter.unnecessarySimpa false
namespace Go.Proofs.YtidjnnnigcmdpaaGreatDoor
open Go.RowKit
end Go.Proofs.YtidjnnnigcmdpaaGreatDoor
