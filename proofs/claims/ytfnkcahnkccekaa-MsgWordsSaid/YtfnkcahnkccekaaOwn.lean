/- Two closed facts of the program. -/
import Derived.Test.YtfnkcahnkccekaaChecked
import Derived.Test.YtfnkcahnkccekaaLaw
namespace Go.Proofs.Ytfnkcahnkccekaa
theorem own_none : ownKnob Try.prog.godebug = none := by kernel_rfl
theorem laid_out : laidOutB Try.prog = true := by kernel_rfl
end Go.Proofs.Ytfnkcahnkccekaa
