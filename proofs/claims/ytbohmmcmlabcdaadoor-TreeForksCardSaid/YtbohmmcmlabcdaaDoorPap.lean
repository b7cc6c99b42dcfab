/- Two closed facts of the program. -/
import Derived.Test.YtbohmmcmlabcdaaDoorChecked
import Derived.Test.YtbohmmcmlabcdaaDoorPao
namespace Go.Proofs.YtbohmmcmlabcdaaDoor
set_option linter.unusedSimpArgs false
set_option linter.unusedVariables false
theorem own_none : ownKnob Tryd.prog.godebug = none := by kernel_rfl
theorem laid_out : laidOutB Tryd.prog = true := by kernel_rfl
end Go.Proofs.YtbohmmcmlabcdaaDoor
