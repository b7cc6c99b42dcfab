/- isNum. -/
import Derived.Test.YtbohmmcmlabcdaaDoorPan
import Derived.Test.YtbohmmcmlabcdaaDoorPau
namespace Go.Proofs.YtbohmmcmlabcdaaDoor
set_option linter.unusedSimpArgs false
set_option linter.unusedVariables false
open Go.RowKit
set_option linter.unusedVariables false
end Go.Proofs.YtbohmmcmlabcdaaDoor
