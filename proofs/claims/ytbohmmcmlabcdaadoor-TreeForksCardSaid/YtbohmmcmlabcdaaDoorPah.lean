/- Contracts of package merkle: the count of leaves. -/
import Derived.Test.YtbohmmcmlabcdaaDoorPag
import Derived.Test.YtbohmmcmlabcdaaDoorPaf
namespace Go.Proofs.YtbohmmcmlabcdaaDoor
set_option linter.unusedSimpArgs false
set_option linter.unusedVariables false
open Go.RowKit
set_option linter.unusedVariables false
end Go.Proofs.YtbohmmcmlabcdaaDoor
