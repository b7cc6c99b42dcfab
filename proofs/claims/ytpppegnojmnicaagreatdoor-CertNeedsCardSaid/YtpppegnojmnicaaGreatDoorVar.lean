/- Two closed facts of the program. -/
import Derived.Test.YtpppegnojmnicaaGreatDoorChecked
import Derived.Test.YtpppegnojmnicaaGreatDoorVaq
namespace Go.Proofs.YtpppegnojmnicaaGreatDoor
set_option linter.unusedSimpArgs false
set_option linter.unusedVariables false
theorem own_none : ownKnob Tryz.prog.godebug = none := by kernel_rfl
theorem laid_out : laidOutB Tryz.prog = true := by kernel_rfl
end Go.Proofs.YtpppegnojmnicaaGreatDoor
