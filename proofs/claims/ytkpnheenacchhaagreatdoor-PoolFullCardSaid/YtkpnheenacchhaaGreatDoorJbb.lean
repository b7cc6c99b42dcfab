/- quorum: N, Q, Check alone. -/
import Derived.IntWalk
import Derived.Lib.Hide
import Derived.Test.YtkpnheenacchhaaGreatDoorProg
import Derived.Test.YtkpnheenacchhaaGreatDoorJan
import Derived.Test.YtkpnheenacchhaaGreatDoorChecked
import Derived.Test.YtkpnheenacchhaaGreatDoorJas
set_option linter.unusedSimpArgs false
set_option linter.unusedVariables false
namespace Go.Proofs.YtkpnheenacchhaaGreatDoor
open Go.RowKit
end Go.Proofs.YtkpnheenacchhaaGreatDoor
namespace Go.Proofs.YtkpnheenacchhaaGreatDoor
theorem jB:ownKnob Tryz.prog.godebug=none:=by kernel_rfl
theorem jC:laidOutB Tryz.prog=true:=by kernel_rfl
end Go.Proofs.YtkpnheenacchhaaGreatDoor
