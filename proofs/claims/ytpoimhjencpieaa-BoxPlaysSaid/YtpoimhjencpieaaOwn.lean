/- Two closed facts of the program. -/
import Derived.Test.YtpoimhjencpieaaChecked
import Derived.Test.YtpoimhjencpieaaLaw
namespace Go.Proofs.Ytpoimhjencpieaa
theorem own_none : ownKnob Try.prog.godebug = none := by kernel_rfl
theorem laid_out : laidOutB Try.prog = true := by kernel_rfl
end Go.Proofs.Ytpoimhjencpieaa
