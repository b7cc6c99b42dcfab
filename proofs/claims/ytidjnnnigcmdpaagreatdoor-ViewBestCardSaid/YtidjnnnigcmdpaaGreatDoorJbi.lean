/- key.parseUpTo; key.Parse of a signature's words. -/
import Derived.Test.YtidjnnnigcmdpaaGreatDoorJbd
import Derived.Test.YtidjnnnigcmdpaaGreatDoorJbe
import Derived.Test.YtidjnnnigcmdpaaGreatDoorJbh
import Derived.Test.YtidjnnnigcmdpaaGreatDoorJav
import Derived.Test.YtidjnnnigcmdpaaGreatDoorJaf
import Derived.Test.YtidjnnnigcmdpaaGreatDoorJai
import Derived.Test.YtidjnnnigcmdpaaGreatDoorJaz
set_option linter.unusedSimpArgs false
set_option linter.unusedVariables false
set_option linter.unnecessarySimpa false
namespace Go.Proofs.YtidjnnnigcmdpaaGreatDoor
open Go.RowKit
end Go.Proofs.YtidjnnnigcmdpaaGreatDoor
