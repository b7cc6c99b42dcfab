/- Two closed facts of the program. -/
import Derived.Test.YtkpnheenacchhaaGreatDoorChecked
import Derived.Test.YtkpnheenacchhaaGreatDoorZaq
set_option linter.unusedSimpArgs false
set_option linter.unusedVariables false
namespace Go.Proofs.YtkpnheenacchhaaGreatDoor
theorem zi1:ownKnob Tryz.prog.godebug=none:=by kernel_rfl
theorem zi2:laidOutB Tryz.prog=true:=by kernel_rfl
end Go.Proofs.YtkpnheenacchhaaGreatDoor
