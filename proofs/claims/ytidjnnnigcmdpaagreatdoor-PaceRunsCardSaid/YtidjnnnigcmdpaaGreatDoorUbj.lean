/- key.parseUpTo; key.Parse of a signature's words. -/
import Derived.Test.YtidjnnnigcmdpaaGreatDoorUbe
import Derived.Test.YtidjnnnigcmdpaaGreatDoorUbf
import Derived.Test.YtidjnnnigcmdpaaGreatDoorUbi
import Derived.Test.YtidjnnnigcmdpaaGreatDoorUaw
import Derived.Test.YtidjnnnigcmdpaaGreatDoorUag
import Derived.Test.YtidjnnnigcmdpaaGreatDoorUaj
import Derived.Test.YtidjnnnigcmdpaaGreatDoorUbc
set_option linter.unusedSimpArgs false
set_option linter.unusedVariables false
set_option linter.unnecessarySimpa false
namespace Go.Proofs.YtidjnnnigcmdpaaGreatDoor
open Go.RowKit
end Go.Proofs.YtidjnnnigcmdpaaGreatDoor
