/- Two closed facts of the program. -/
import Derived.Test.YtidjnnnigcmdpaaGreatDoorChecked
import Derived.Test.YtidjnnnigcmdpaaGreatDoorJar
set_option linter.unusedSimpArgs false
set_option linter.unusedVariables false
set_option linter.unnecessarySimpa false
namespace Go.Proofs.YtidjnnnigcmdpaaGreatDoor
theorem ze8:ownKnob Tryz.prog.godebug=none:=by kernel_rfl
theorem ze9:laidOutB Tryz.prog=true:=by kernel_rfl
end Go.Proofs.YtidjnnnigcmdpaaGreatDoor
