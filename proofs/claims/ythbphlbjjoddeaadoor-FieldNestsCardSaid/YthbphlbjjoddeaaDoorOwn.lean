/- Two closed facts of the program. -/
import Derived.Test.YthbphlbjjoddeaaDoorChecked
import Derived.Test.YthbphlbjjoddeaaDoorLaw
namespace Go.Proofs.YthbphlbjjoddeaaDoor
theorem own_none : ownKnob Tryd.prog.godebug = none := by kernel_rfl
theorem laid_out : laidOutB Tryd.prog = true := by kernel_rfl
end Go.Proofs.YthbphlbjjoddeaaDoor
