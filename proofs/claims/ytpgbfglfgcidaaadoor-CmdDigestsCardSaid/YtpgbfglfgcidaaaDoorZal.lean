/- Two closed facts of the program. -/
import Derived.Test.YtpgbfglfgcidaaaDoorChecked
import Derived.Test.YtpgbfglfgcidaaaDoorZak
namespace Go.Proofs.YtpgbfglfgcidaaaDoor
set_option linter.unusedSimpArgs false
set_option linter.unusedVariables false
theorem own_none : ownKnob Tryd.prog.godebug = none := by kernel_rfl
theorem laid_out : laidOutB Tryd.prog = true := by kernel_rfl
end Go.Proofs.YtpgbfglfgcidaaaDoor
