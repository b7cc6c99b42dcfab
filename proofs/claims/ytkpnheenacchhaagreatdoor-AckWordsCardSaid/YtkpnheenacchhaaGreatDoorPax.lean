/- twice, doubled. -/
import Derived.Laws.MakeOwn
import Derived.Test.YtkpnheenacchhaaGreatDoorPaw
import Derived.Test.YtkpnheenacchhaaGreatDoorPav
namespace Go.Proofs.YtkpnheenacchhaaGreatDoor
set_option linter.unusedSimpArgs false
set_option linter.unusedVariables false
open Go.RowKit
set_option linter.unusedVariables false
end Go.Proofs.YtkpnheenacchhaaGreatDoor

namespace Go.Proofs.YtkpnheenacchhaaGreatDoor
set_option linter.unusedSimpArgs false
set_option linter.unusedVariables false
open Go.RowKit
set_option linter.unusedVariables false
end Go.Proofs.YtkpnheenacchhaaGreatDoor
