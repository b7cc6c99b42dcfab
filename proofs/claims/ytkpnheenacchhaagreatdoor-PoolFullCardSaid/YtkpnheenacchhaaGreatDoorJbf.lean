/- The reference's Num. -/
import Derived.Outline
import Derived.Test.YtkpnheenacchhaaGreatDoorJaj
import Derived.Test.YtkpnheenacchhaaGreatDoorJaa
import Derived.Test.YtkpnheenacchhaaGreatDoorJax
set_option linter.unusedSimpArgs false
set_option linter.unusedVariables false
namespace Go.Proofs.YtkpnheenacchhaaGreatDoor
open Go.RowKit
end Go.Proofs.YtkpnheenacchhaaGreatDoor
