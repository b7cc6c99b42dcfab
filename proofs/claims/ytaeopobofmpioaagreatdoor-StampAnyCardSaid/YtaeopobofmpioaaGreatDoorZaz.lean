/- twice, doubled. -/
import Derived.Laws.MakeOwn
import Derived.Test.YtaeopobofmpioaaGreatDoorZay
import Derived.Test.YtaeopobofmpioaaGreatDoorZax
namespace Go.Proofs.YtaeopobofmpioaaGreatDoor
set_option linter.unusedSimpArgs false
set_option linter.unusedVariables false
open Go.RowKit
set_option linter.unusedVariables false
def tw (n : Int) : Int := wrap64 (2 * n)
end Go.Proofs.YtaeopobofmpioaaGreatDoor

namespace Go.Proofs.YtaeopobofmpioaaGreatDoor
set_option linter.unusedSimpArgs false
set_option linter.unusedVariables false
open Go.RowKit
set_option linter.unusedVariables false
end Go.Proofs.YtaeopobofmpioaaGreatDoor
