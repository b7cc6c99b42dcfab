/- Two closed facts of the program. -/
import Derived.Test.YtidjnnnigcmdpaaGreatDoorChecked
import Derived.Test.YtidjnnnigcmdpaaGreatDoorUas
set_option linter.unusedSimpArgs false
set_option linter.unusedVariables false
set_option linter.unnecessarySimpa false
namespace Go.Proofs.YtidjnnnigcmdpaaGreatDoor
theorem zes:ownKnob Tryz.prog.godebug=none:=by kernel_rfl
theorem zet:laidOutB Tryz.prog=true:=by kernel_rfl
end Go.Proofs.YtidjnnnigcmdpaaGreatDoor
