/- key.parseUpTo; key.Parse of a signature's words. -/
import Derived.Test.YtkpnheenacchhaaGreatDoorJbj
import Derived.Test.YtkpnheenacchhaaGreatDoorJbk
import Derived.Test.YtkpnheenacchhaaGreatDoorJbm
import Derived.Test.YtkpnheenacchhaaGreatDoorJbd
import Derived.Test.YtkpnheenacchhaaGreatDoorJag
import Derived.Test.YtkpnheenacchhaaGreatDoorJaj
import Derived.Test.YtkpnheenacchhaaGreatDoorJbf
set_option linter.unusedSimpArgs false
set_option linter.unusedVariables false
namespace Go.Proofs.YtkpnheenacchhaaGreatDoor
open Go.RowKit
end Go.Proofs.YtkpnheenacchhaaGreatDoor
