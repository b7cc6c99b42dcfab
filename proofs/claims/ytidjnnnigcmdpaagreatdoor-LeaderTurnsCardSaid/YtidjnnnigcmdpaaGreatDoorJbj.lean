/- key.parseUpTo; key.Parse of a signature's words. -/
import Derived.Test.YtidjnnnigcmdpaaGreatDoorJbe
import Derived.Test.YtidjnnnigcmdpaaGreatDoorJbf
import Derived.Test.YtidjnnnigcmdpaaGreatDoorJbi
import Derived.Test.YtidjnnnigcmdpaaGreatDoorJaw
import Derived.Test.YtidjnnnigcmdpaaGreatDoorJag
import Derived.Test.YtidjnnnigcmdpaaGreatDoorJaj
import Derived.Test.YtidjnnnigcmdpaaGreatDoorJbc
set_option linter.unusedSimpArgs false
set_option linter.unusedVariables false
set_option linter.unnecessarySimpa false
namespace Go.Proofs.YtidjnnnigcmdpaaGreatDoor
open Go.RowKit
end Go.Proofs.YtidjnnnigcmdpaaGreatDoor
