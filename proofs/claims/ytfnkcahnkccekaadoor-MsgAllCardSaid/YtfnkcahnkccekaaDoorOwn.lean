/- Two closed facts of the program. -/
import Derived.Test.YtfnkcahnkccekaaDoorChecked
import Derived.Test.YtfnkcahnkccekaaDoorLaw
namespace Go.Proofs.YtfnkcahnkccekaaDoor
theorem own_none : ownKnob Tryd.prog.godebug = none := by kernel_rfl
theorem laid_out : laidOutB Tryd.prog = true := by kernel_rfl
end Go.Proofs.YtfnkcahnkccekaaDoor
